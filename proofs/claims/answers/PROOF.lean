import PyProof.Rows.All
import Wide.All
import OpenK.AllK
import Wide.FinOn
import PyProof.EqAt
import PyProof.EqKinds
import PyProof.TupleCall
import Open.SpecLaws
import KE.OsGo
import HandS.ForSpec
import HandS.ExcInit
import HandS.ExcSuper
import HandS.HeadHook1
import HandS.IsInst
import KE.KStateDown
import KE.OsHead
import HandS.More
import HandS.Defaults
import HandS.ExcField
import HandS.Head0
import HandS.Head1
import HandS.Head2
import HandS.Head3
import HandS.Head4
import HandS.HeadHook2
import HandS.HeadHook3
import HandS.HeadHook4
import PySem.Challenge.RW_whykept_s01_answers
import VakepBaseSpec
import VakepaSpec
import VakepbSpec
import HandS.HeadNt
import HandS.Comp
import HandS.Dict
import HandS.Iter
import HandS.Text
import HandS.StrMore
import HandS.Flow
import HandS.Conv
import HandS.SortInts
import HandS.Codes
import HandS.Walk
import HandS.WordsDict
import KE.IntTextLaws
import PyProof.StrLawsFrom
import HandS.ListItems
import PyProof.DictUpdate
import HandS.DictComp
import HandS.SetFor
import HandS.Strs
import HandS.Nested
import HandS.ExcValue
import KE.SortKeyHeap
import HandS.ExcIs
import HandS.EndTab
set_option Elab.async false
set_option linter.all false
set_option maxRecDepth 100000
set_option maxHeartbeats 4000000
/-! An error class of the program's own straight under Exception, whose __init__ calls Exception's with its arguments and then keeps fields. -/
namespace Vf
open PySem PySem.Spec PyProof.Rows L2

/-- what the written part tells of such a class at C -/
structure Ecl (K : PySem.W.Frag) (C : Addr) : Prop where
  cls : ∃ nm q N bs sn sub ab col dd k0 k1 k2 k3 k5,
    K.lookup C = some (excClassObj nm q C N bs PySem.ESX.exTail true sn sub ab col dd k0 k1 k2 k3 k5 "Exception.__new__")
  sa : PySem.W.findIn K (.ref C) "__setattr__" = some (some (.builtin "object.__setattr__"))
  sub : PySem.W.subIn K (.ref C) (.type "BaseException") = some true
  ty : PySem.W.typeIn K (.ref C) = some (.type "type")
  kp : PySem.W.keepIn K (.ref C) = true

def eclB (K : PySem.W.Frag) (C : Addr) : Bool :=
  (match K.lookup C with
  | some ⟨.type t, _, .cls cd, sl⟩ => (match sl.toList with
    | [_, _, _, _, some (.builtin n), _] => decide (t = "type") && (decide (cd.mro = .ref C :: PySem.ESX.exTail) && (decide (n = "Exception.__new__") && (cd.hasDict && !cd.hasDel)))
    | _ => false)
  | _ => false) &&
  (decide (PySem.W.findIn K (.ref C) "__setattr__" = some (some (.builtin "object.__setattr__"))) &&
  (decide (PySem.W.subIn K (.ref C) (.type "BaseException") = some true) &&
  (decide (PySem.W.typeIn K (.ref C) = some (.type "type")) && PySem.W.keepIn K (.ref C))))

theorem ecl_of {K : PySem.W.Frag} {C : Addr} (h : eclB K C = true) : Ecl K C := by
  unfold eclB at h
  rw [Bool.and_eq_true, Bool.and_eq_true, Bool.and_eq_true, Bool.and_eq_true] at h
  obtain ⟨h1, h2, h3, h4, h5⟩ := h
  refine ⟨?_, of_decide_eq_true h2, of_decide_eq_true h3, of_decide_eq_true h4, h5⟩
  cases q : K.lookup C with
  | none =>
    rw [q] at h1
    cases h1
  | some o =>
    obtain ⟨oc, od, dt, sl⟩ := o
    rw [q] at h1
    cases oc with
    | type t => cases dt with
      | cls cd =>
        obtain ⟨l⟩ := sl
        match l, h1 with
        | [k0, k1, k2, k3, some v, k5], h1 =>
          cases v with
          | builtin n =>
            have h6 : (decide (t = "type") && (decide (cd.mro = .ref C :: PySem.ESX.exTail) && (decide (n = "Exception.__new__") && (cd.hasDict && !cd.hasDel)))) = true := h1
            simp only [Bool.and_eq_true, decide_eq_true_eq, Bool.not_eq_true'] at h6
            obtain ⟨e1, e2, e3, e4, e5⟩ := h6
            obtain ⟨nm, bs, mro, ns, qn, hd, sn, sub, ab, col, del⟩ := cd
            dsimp only at e2 e4 e5
            subst e1 e2 e3 e4 e5
            exact ⟨nm, qn, ns, bs, sn, sub, ab, col, od, k0, k1, k2, k3, k5, rfl⟩
          | _ => simp at h1
        | [], h1 => cases h1
        | [_], h1 => cases h1
        | [_, _], h1 => cases h1
        | [_, _, _], h1 => cases h1
        | [_, _, _, _], h1 => cases h1
        | [_, _, _, _, _], h1 => simp at h1
        | [_, _, _, _, none, _], h1 => simp at h1
        | _ :: _ :: _ :: _ :: _ :: _ :: _ :: _, h1 => simp at h1
      | _ => cases h1
    | _ => cases dt <;> cases h1

section
variable {X : Cx} {pins : List (Addr × Obj)} {σ : L2.St} {H : Hp} {a C dx : Addr} {f : Str} {y : V} {u : Value} {fs : List (Str × V)} {Q : Unit → Shared → Prop} {E : Value → Shared → Prop} {A : Around}
abbrev exObj (C t1 : Addr) (d : Option Addr) : Obj := { cls := .ref C, dict := d, data := .fields #[.ref t1, .none, .none, .none, .bool false, .none] }
theorem Ecl.cd {K : PySem.W.Frag} (T : Ecl K C) : ∃ cd, PySem.W.clsIn K C = some cd ∧ cd.mro = .ref C :: PySem.ESX.exTail ∧ cd.hasDict = true := by
  obtain ⟨nm, q, N, bs, sn, sub, ab, col, dd, k0, k1, k2, k3, k5, hC⟩ := T.cls
  exact ⟨{ name := nm, bases := bs, mro := .ref C :: PySem.ESX.exTail, ns := N, qualname := q, hasDict := true, slotNames := sn, subclasses := sub, abstract := ab, collection := col, hasDel := false }, by
    unfold PySem.W.clsIn
    rw [hC] <;> rfl, rfl, rfl⟩
/-- the heap with the exception's new dict is the abstract one with both -/
theorem grown {hp h' : Heap} {g : Array GenState} {d : Drawn} {t t' : Nat} {os : OsState} {t1 : Addr} (I : Inv X pins σ H ⟨hp, g, d, t, os⟩) (ea : H a = some (exo a C none)) (ry : RelV y u)
    (k : ∀ b o, b ≠ a → hp.get? b = some o → h'.get? b = some o) (big : hp.objs.size ≤ dx) (ne : dx ≠ a) (hx : h'.get? a = some (exObj C t1 (some dx)))
    (hn : h'.Ns1 dx (fun y => if y = f then some u else none)) :
    H dx = none ∧ Inv X pins σ (upd (upd H dx (exd dx [(f, y)])) a (exo a C (some dx))) ⟨h', g, d, t', os⟩ := by
  have free : H dx = none := I.hok.fresh big
  have offA : ∀ {b : Addr}, H b = none → b ≠ a := fun {b} n z => by
    subst z
    rw [ea] at n
    exact nomatch n
  have offD : ∀ {b : Addr} {o : Obj}, hp.get? b = some o → b ≠ dx := fun {b o} q z => by
    subst z
    exact absurd (Heap.lt_size q) (Nat.not_lt.mpr big)
  have other : ∀ {b : Addr} {o : HO}, b ≠ a → H b = some o → upd (upd H dx (exd dx [(f, y)])) a (exo a C (some dx)) b = some o := fun {b o} h1 h2 => by
    rw [upd_ne h1, upd_ne (ne_of_none h2 free), h2]
  refine ⟨free, I.un (t' := t') ?un ?ok⟩
  case un =>
    constructor
    · exact fun b o q n _ _ => k b o (offA n) q
    · exact fun b o q n _ _ => ⟨o.slots, k b o (offA n) q⟩
    · intro b o q n _
      rw [upd_ne (offA n), upd_ne (offD q), n]
    · intro b o q _
      by_cases hb : b = a
      · subst hb
        exact ⟨_, hx⟩
      · exact ⟨o, k b o hb q⟩
    · exact fun b xs q => other (at_ne ea q exo_tup) q
    · exact fun b o v q => other (at_ne ea q exo_frz) q
    · exact fun b ps q => ⟨#[], by rw [other (at_ne ea q exo_tbl) q, Array.append_empty]⟩
  case ok =>
    intro b o q
    by_cases hb : b = a
    · subst hb
      rw [upd_same] at q
      cases q
      exact exo_ok hx
    rw [upd_ne hb] at q
    by_cases hd : b = dx
    · subst hd
      rw [upd_same] at q
      cases q
      exact exd_ok hn (relO_put (fs := []) ry fun _ => trivial)
    rw [upd_ne hd] at q
    refine (I.hok b o q).stay (fun c v hc z => k c v ?_ z) (fun c hc => other (at_ne ea hc exo_own) hc) fun c xs hc => other (at_ne ea hc exo_tup) hc
    rcases hc with rfl | hc
    · exact hb
    · exact at_ne ea hc exo_own
/-- self.f = y where the exception has no dict yet -/
theorem keep_first {s : Shared} (T : Ecl X.K C) (I : Inv X pins σ H s) (ea : H a = some (exo a C none)) (hno : PySem.W.findIn X.K (.ref C) f = some none) (ry : RelV y u)
    (h : ∀ dx s', H dx = none → dx ≠ a → Inv X pins σ (upd (upd H dx (exd dx [(f, y)])) a (exo a C (some dx))) s' → Q () s') :
    wpAny (model X.prog X.w) A (setAttr (.ref a) f u) Q E s := by
  obtain ⟨cd, hcl, hm, hh⟩ := T.cd
  obtain ⟨t1, ho⟩ := exo_at I.hok ea
  obtain ⟨hp, g, d, t, os⟩ := s
  refine PySem.W.set_plain I.kIn (ox := exObj C t1 none) (od := none) ⟨ho, rfl, rfl, trivial⟩ T.sa ?_
  refine PySem.ESX.osa_new I.kIn ho hcl hm hh hno fun h' tk' dx k big ne hx hn => ?_
  obtain ⟨n, J⟩ := grown (t' := tk') I ea ry k big ne hx hn
  exact h dx _ n ne J
/-- .. where it has one -/
theorem keep_more {s : Shared} (T : Ecl X.K C) (I : Inv X pins σ H s) (ea : H a = some (exo a C (some dx))) (ed : H dx = some (exd dx fs)) (small : fs.length ≤ 900) (hno : PySem.W.findIn X.K (.ref C) f = some none) (ry : RelV y u)
    (h : ∀ s', Inv X pins σ (upd H dx (exd dx ((f, y) :: fs))) s' → Q () s') : wpAny (model X.prog X.w) A (setAttr (.ref a) f u) Q E s := by
  obtain ⟨cd, hcl, hm, hh⟩ := T.cd
  obtain ⟨t1, ho⟩ := exo_at I.hok ea
  obtain ⟨mA, hns, rel⟩ := exd_at I.hok ed
  have hw := within_of rel
  obtain ⟨hp, g, d, t, os⟩ := s
  obtain ⟨oD, _, _, hoD, _, _⟩ := hns.count hw
  refine PySem.W.set_plain I.kIn (ox := exObj C t1 (some dx)) (od := some oD) ⟨ho, rfl, rfl, hoD⟩ T.sa ?_
  refine PySem.ESX.osa_old I.kIn ho hns hw ?_ hcl hm hh hno fun h' tk' k hn => ?_
  · rw [List.length_map]
    omega
  obtain ⟨o, es, ep, eo, er⟩ := id hn
  refine h _ (I.write (t' := tk') (x := dx) (e := dx) (o := exd dx ((f, y) :: fs)) ?_ (.inl rfl) k ⟨o, eo⟩ (exd_ok hn (relO_put ry rel)))
  rw [ed]
  trivial
/-- Exception.__init__(self, ..) -/
theorem base_init {s : Shared} {us : List Value} {Q : Value → Shared → Prop} (T : Ecl X.K C) (I : Inv X pins σ H s) (ea : H a = some (exo a C none)) (hl : us.length ≤ sizeLine)
    (h : ∀ s', Inv X pins σ H s' → Q .none s') : wpAny (model X.prog X.w) A (call (.builtin "Exception.__init__") (.ref a :: us)) Q E s := by
  obtain ⟨nm, q, N, bs, sn, sub, ab, col, dd, k0, k1, k2, k3, k5, hC⟩ := T.cls
  obtain ⟨t1, ho⟩ := exo_at I.hok ea
  obtain ⟨hp, g, d, t, os⟩ := s
  refine wpAny_call (PySem.HandSPX.init_base F.excBase_Exception (fun _ => rfl) (I.kIn _ _ hC) ho hl fun h' t2 k hx => ?_)
  have J := I.write (t' := t) (x := a) (e := a) (o := exo a C none) (by rw [ea]; trivial) (.inl rfl) k ⟨_, hx⟩ (exo_ok hx)
  have back : upd H a (exo a C none) = H := by
    funext b
    by_cases hb : b = a
    · subst hb
      rw [upd_same, ea]
    · rw [upd_ne hb]
  rw [back] at J
  exact h _ J
end

/-! ### readings and rules -/
/-- Exception.__init__(self, ..) -/
def tBase (K : PySem.W.Frag) (ta : TA) : TE := fun σ H Q => ta σ H fun vs H1 =>
  ∃ (a C : Addr) (ws : List V), vs = .ref a :: ws ∧ ws.length ≤ 1000 ∧ Ecl K C ∧ H1 a = some (exo a C none) ∧ Q .non H1
/-- self.f = e on the exception: the first field, or one more -/
def tKeep (K : PySem.W.Frag) (f : Str) (to te : TE) : TS := fun D σ H => te σ H fun y H1 => to σ H1 fun x H2 =>
  ∃ a C : Addr, x = .ref a ∧ Ecl K C ∧ PySem.W.findIn K (.ref C) f = some none ∧
    ((H2 a = some (exo a C none) ∧ ∀ dx, H2 dx = none → dx ≠ a → D.nx σ (upd (upd H2 dx (exd dx [(f, y)])) a (exo a C (some dx)))) ∨
      ∃ (dx : Addr) (fs : List (Str × V)), H2 a = some (exo a C (some dx)) ∧ H2 dx = some (exd dx fs) ∧ fs.length ≤ 900 ∧ D.nx σ (upd H2 dx (exd dx ((f, y) :: fs))))
/-- X(e, ..), made to be raised: its __init__ keeps sp -/
def tBorn (C : Addr) (sp : Sp) (ta : TA) : L2.St → Hp → XK → Prop := fun σ H Q => ta σ H fun vs H1 => vs.length ≤ 1000 ∧ ∀ a, H1 a = none →
  sp (.ref a :: vs) (upd H1 a (exo a C none))
    (fun v H2 => v = .non ∧ ∃ (d : Addr) (fs : List (Str × V)), H2 a = some (exo a C (some d)) ∧ H2 d = some (exd d fs) ∧ H1 d = none ∧ Q (.ref C) (some d) (upd (del H2 a) d (.xd fs)))
    (fun _ _ _ => False)
section
variable {X : Cx} {o e : Expr} {es : List Expr} {to te : TE} {ta : TA} {f : Str} {p p' p1 p2 pos : Pos}
theorem type_Exception : typeOf (.type "Exception") = pure (.type "type") := by kernel_rfl
theorem pe_base {pl : Sem Bool} (hg : Gl X "Exception") (hm : X.mg "Exception" = none)
    (fi : PySem.W.findCls X.K (.type "Exception") (.type "type") "__init__" = some (.val (.builtin "Exception.__init__"))) (ha : PA X (e :: es) ta)
    (hc : eval (.Call (.Attribute (.Name "Exception" p1) "__init__" p2) (e :: es) [] pos) X.env = (do
      let v ← eval (.Name "Exception" p1) X.env
      standAt p2.atName
      let (f, first) ← holding [v] (getMethod v "__init__" pl)
      callWith pos f first (backTo pos (starEach (e :: es) X.env)) (backToKw pos (keywordEach [] X.env))) := by rfl)
    (he : starEach (e :: es) X.env = (false, eval e X.env) :: starEach es X.env := by rfl) (hpl : (backTo pos (starEach es X.env)).any (·.1) = false := by rfl) :
    PE X (.Call (.Attribute (.Name "Exception" p1) "__init__" p2) (e :: es) [] pos) (tBase X.K ta) := by
  constructor
  intro pins s σ H Q I h
  refine PySem.W.methodCall_KW (ld_blt I hg hm PyProof.Rows.Boot.«Exception» ?_ (by decide) (by decide)) hc
  obtain ⟨m, fr⟩ := I.fr
  refine PySem.W.method_type fr I.ok.mod.kin type_Exception (by decide +kernel) fi (by decide +kernel) ?_
  show wpAny _ _ (callWith pos (Value.builtin "Exception.__init__") [] (backTo pos (starEach (e :: es) X.env)) []) _ _ _
  refine PyProof.Rows.callWith_method1 (thn (ha.run pos pins _ σ H _ (I.tok _) h) ?_) he hpl
  rintro us s1 ⟨vs, H1, I1, r1, a, C, ws, rfl, hl, T, ea, q⟩
  cases r1 with
  | @cons _ u0 _ ur ra rest =>
    obtain rfl : u0 = Value.ref a := ra
    refine base_init T I1 ea ?_ fun s' J => ⟨.non, H1, J, rfl, q⟩
    rw [← Paired.length rest, sizeLine_eq]
    omega
theorem ps_keep (ho : PE X o to) (he : PE X e te) (hs : swapsWith e (some (.Attribute o f p')) pos.line X.env = pure false := by rfl) :
    PS X (.Assign [.Attribute o f p'] e pos) (tKeep X.K f to te) := by
  constructor
  intro pins s σ H D I h
  refine plainObj_wpAny_Assign_Attribute (thn (he.run pins s σ H _ I h) ?_) hs
  rintro v s1 ⟨y, H1, I1, r1, q1⟩
  refine thn (ho.run pins s1 σ H1 _ I1 q1) ?_
  rintro u s2 ⟨x, H2, I2, r2, a, C, rfl, T, hno, q⟩
  obtain rfl : u = Value.ref a := r2
  rcases q with ⟨ea, q⟩ | ⟨dx, fs, ea, ed, hl, q⟩
  · exact keep_first T I2 ea hno r1 fun dx s' n ne J => ⟨σ, _, J, q dx n ne⟩
  · exact keep_more T I2 ea ed hl hno r1 fun s' J => ⟨σ, _, J, q⟩
theorem pmk_born {CX : CXT} {x : Str} {C fI : Addr} {k : Nat} {fd : FuncData} {ps : List Str} {sp : Sp} (T : Ecl X.K C) (iC : PySem.W.findIn X.K (.ref C) "__init__" = some (some (.ref fI)))
    (tI : PySem.W.typeIn X.K (.ref fI) = some (.type "function")) (F1 : FnOk X.prog X.w X.K X.mg X.base CX k fI fd ps sp) (hr : Room (k + 1) X.A) (hb : Binds X.K fd ps [])
    (hx : Passes CX X (fun _ _ _ => False)) (hg : Gl X x) (hm : X.mg x = some (.ref C)) (ha : PA X (e :: es) ta) (hdb : (x == ("__debug__" : Str)) = false := by decide)
    (he : starEach (e :: es) X.env = (false, eval e X.env) :: starEach es X.env := by rfl) (hpl : (backTo pos (starEach es X.env)).any (·.1) = false := by rfl) :
    PMk X (.Call (.Name x p) (e :: es) [] pos) (tBorn C sp ta) := by
  intro pins s σ H Q I h
  obtain ⟨nm, q, N, bs, sn, sub, ab, col, dd, k0, k1, k2, k3, k5, hC⟩ := T.cls
  refine wpAny_Call_Name_kw (ld_glob I hg hm ?_ hdb)
  refine PySem.W.callWith_K (h₀ := X.base) I.ok.mod.kin T.kp (thn (ha.run pos pins s σ H _ I h) ?_) he hpl
  rintro us ⟨hp, g, dr, tk, os⟩ ⟨vs, H1, I1, r1, hz, q1⟩
  refine ⟨I1.kIn, ?_⟩
  show wpAny _ _ (call (.ref C) us) _ _ _
  generalize hA : hp.objs.size + 1 = a0
  have big : hp.objs.size ≤ a0 := by omega
  have hn : H1 a0 = none := I1.hok.fresh big
  generalize hG : (hp.push (PySem.W.kdv_tup us)).push (PySem.HandSPX.excO C hp.objs.size) = hp2
  have kk : ∀ b o, hp.get? b = some o → hp2.get? b = some o := fun b o z => by
    rw [← hG]
    exact Heap.get?_push_of_some _ (Heap.get?_push_of_some _ z)
  have hget : hp2.get? a0 = some (PySem.HandSPX.excO C hp.objs.size) := by
    rw [← hG, ← hA]
    heap_get
  have I2 : Inv X pins σ (upd H1 a0 (exo a0 C none)) ⟨hp2, g, dr, tk, os⟩ := I1.laid (t' := tk) (a := a0) (o := exo a0 C none) (h' := hp2) kk big (exo_ok hget)
  have sp1 := q1 a0 hn
  have r2 : Vals (V.ref a0 :: vs) (Value.ref a0 :: us) := .cons rfl r1
  have hl : (Value.ref a0 :: us).length = ps.length := by
    rw [← F1.len _ _ _ _ sp1]
    exact r2.length.symm
  have hus : us.length ≤ sizeLine := by
    rw [← Paired.length r1, sizeLine_eq]
    omega
  refine wpAny_call (PySem.HandSPX.call_own F.excBase_Exception (fun _ => rfl) (I1.kIn _ _ hC) (PySem.W.looks_findIn I1.kIn iC) (fun self => PySem.W.bind_fn I1.kIn self tI) hus ?_)
  rw [hG, hA]
  have bnd := hb ⟨hp2, g, dr, tk, os⟩ (Value.ref a0 :: us) I2.kIn (by rw [List.append_nil]; exact hl)
  rw [List.append_nil] at bnd
  refine codeAny_mono (F1.run _ X.stack _ _ ⟨Value.ref a0 :: us, []⟩ (Value.ref a0 :: us) _ _ (fun _ _ _ => False) (hr.make C us []) (I2.env0.make C us []) bnd r2 sp1) fun r s' hq' => ?_
  cases r with
  | error er => exact hx pins σ _ _ er s' I2 hq'
  | ok fl =>
    cases fl with
    | ret u =>
      obtain ⟨v, H2, os2, bare2, un2, hok2, rv, ev, d, fs, ea, ed, hd1, q2⟩ := hq'
      subst ev
      obtain ⟨h2, g2, d2, t2, os'⟩ := s'
      exact ⟨rv, mk_end (raises_own T.sub T.ty) I1 big kk un2 hok2 os2 bare2 ea ed hd1 q2⟩
    | next => exact False.elim hq'
    | brk => exact False.elim hq'
    | cont => exact False.elim hq'
end
/-- what isinstance asks of instances of these classes xs, against these ys -/
def isiB (K : PySem.W.Frag) (xs ys : List Str) : Bool :=
  decide (PySem.W.specialIn K (.builtin "object.__class__") "__get__" = some (some (.builtin "getset_descriptor.__get__"))) && (decide (PySem.W.takesIn K (.builtin "object.__class__") = some true) &&
  xs.all fun x => decide (PySem.W.findIn K (.ref (He.ga K x)) "__class__" = some (some (.builtin "object.__class__"))) && (decide (PySem.W.mroIn K (He.ga K x) (.type "object") = some true) &&
    ys.all fun y => decide (PySem.W.kitOne K (.ref (He.ga K x)) (.ref (He.ga K y)) = some (decide (x = y)))))
theorem isi_of {K : PySem.W.Frag} {xs ys : List Str} (h : isiB K xs ys = true) {x y : Str} (hx : x ∈ xs) (hy : y ∈ ys) {H : Hp} {a dx : Addr} {fs : List (Str × V)} (e : H a = some (.ins (He.ga K x) dx fs)) (cl : Cls K (He.ga K x)) :
    TyOf K H (.ref a) (.ref (He.ga K x)) ∧ PySem.W.kitOne K (.ref (He.ga K x)) (.ref (He.ga K y)) = some (decide (x = y)) := by
  unfold isiB at h
  rw [Bool.and_eq_true, Bool.and_eq_true] at h
  obtain ⟨h1, h2, h3⟩ := h
  have h4 := List.all_eq_true.mp h3 x hx
  rw [Bool.and_eq_true, Bool.and_eq_true] at h4
  obtain ⟨h5, h6, h7⟩ := h4
  exact ⟨.ins e cl (of_decide_eq_true h5) (of_decide_eq_true h1) (of_decide_eq_true h2) (of_decide_eq_true h6), of_decide_eq_true (List.all_eq_true.mp h7 y hy)⟩
end Vf

set_option Elab.async false
set_option linter.all false
set_option maxRecDepth 100000
set_option maxHeartbeats 0
/-! Where each def stands, what the head tells of the top, and the top's one run. Printed by gen_head.py from the linked text. -/
namespace Vf
open PySem PySem.Spec PyProof.Rows L2
/-- the i-th statement of the linked text's top -/
def stAt (i : Nat) : Stmt := PySem.Challenge.pw_whykept_s01_answers.main.body.getD i (.Pass ⟨0, 0, 0, 0⟩)
abbrev s_choices_of : Stmt := stAt 1
abbrev s_choice_of : Stmt := stAt 2
abbrev s_made_name : Stmt := stAt 3
abbrev s_holds : Stmt := stAt 4
abbrev s_entered_by_runs : Stmt := stAt 31
abbrev s_tables_of : Stmt := stAt 35
abbrev s_table_of : Stmt := stAt 36
abbrev s_tell_names : Stmt := stAt 37
abbrev s_chains_by : Stmt := stAt 38
abbrev s_closest_of_all : Stmt := stAt 42
abbrev s_closest_among : Stmt := stAt 43
abbrev s_tokens_of : Stmt := stAt 59
abbrev s_as_text : Stmt := stAt 60
abbrev s_behind_blanks : Stmt := stAt 61
abbrev s_remark_end : Stmt := stAt 62
abbrev s_token_at : Stmt := stAt 63
abbrev s_number_at : Stmt := stAt 64
abbrev s_name_at : Stmt := stAt 65
abbrev s_run_end : Stmt := stAt 66
abbrev s_read_program : Stmt := stAt 75
abbrev s_check_room : Stmt := stAt 77
abbrev s_check_known : Stmt := stAt 78
abbrev s_one_form : Stmt := stAt 80
abbrev s_setting_row : Stmt := stAt 81
abbrev s_part_row : Stmt := stAt 82
abbrev s_bracketed : Stmt := stAt 83
abbrev s_statement_form : Stmt := stAt 84
abbrev s_shown : Stmt := stAt 86
abbrev s_chain : Stmt := stAt 87
abbrev s_lost : Stmt := stAt 88
abbrev s_tree : Stmt := stAt 89
abbrev s_shares : Stmt := stAt 90
abbrev s_around : Stmt := stAt 91
abbrev s_both : Stmt := stAt 92
abbrev s_heavy : Stmt := stAt 93
abbrev s_counted : Stmt := stAt 94
abbrev s_answers : Stmt := stAt 109
abbrev s_width_of : Stmt := stAt 110
abbrev s_has_mode : Stmt := stAt 112
abbrev s_has_parts : Stmt := stAt 113
abbrev s_Fault_init : Stmt := inClass (stAt 15) 0
abbrev s_Say_init : Stmt := inClass (stAt 17) 0
abbrev s_Call_init : Stmt := inClass (stAt 18) 0
abbrev s_Make_init : Stmt := inClass (stAt 19) 0
abbrev s_When_init : Stmt := inClass (stAt 20) 0
abbrev s_Setting_init : Stmt := inClass (stAt 21) 0
abbrev s_Part_init : Stmt := inClass (stAt 22) 0
abbrev s_Program_init : Stmt := inClass (stAt 23) 0
abbrev s_Program_size_of : Stmt := inClass (stAt 23) 1
abbrev s_Run_init : Stmt := inClass (stAt 32) 0
abbrev s_Run_call_part : Stmt := inClass (stAt 32) 1
abbrev s_Run_enter : Stmt := inClass (stAt 32) 2
abbrev s_Run_do_all : Stmt := inClass (stAt 32) 3
abbrev s_Run_do_one : Stmt := inClass (stAt 32) 4
abbrev s_Run_make_part : Stmt := inClass (stAt 32) 5
abbrev s_Reach_init : Stmt := inClass (stAt 41) 0
abbrev s_Reach_come_to : Stmt := inClass (stAt 41) 1
abbrev s_Reach_search : Stmt := inClass (stAt 41) 2
abbrev s_Reach_lost_with : Stmt := inClass (stAt 41) 3
abbrev s_Reach_size_lost : Stmt := inClass (stAt 41) 4
abbrev s_Token_init : Stmt := inClass (stAt 58) 0
abbrev s_Reader_init : Stmt := inClass (stAt 76) 0
abbrev s_Reader_read : Stmt := inClass (stAt 76) 1
abbrev s_Reader_ahead : Stmt := inClass (stAt 76) 2
abbrev s_Reader_take : Stmt := inClass (stAt 76) 3
abbrev s_Reader_take_if : Stmt := inClass (stAt 76) 4
abbrev s_Reader_read_setting : Stmt := inClass (stAt 76) 5
abbrev s_Reader_read_word : Stmt := inClass (stAt 76) 6
abbrev s_Reader_read_part : Stmt := inClass (stAt 76) 7
abbrev s_Reader_read_amount : Stmt := inClass (stAt 76) 8
abbrev s_Reader_read_body : Stmt := inClass (stAt 76) 9
abbrev s_Reader_read_statement : Stmt := inClass (stAt 76) 10
abbrev s_Reader_read_say : Stmt := inClass (stAt 76) 11
abbrev s_Reader_read_call : Stmt := inClass (stAt 76) 12
abbrev s_Reader_read_make : Stmt := inClass (stAt 76) 13
abbrev s_Reader_read_piece : Stmt := inClass (stAt 76) 14
abbrev s_Reader_read_when : Stmt := inClass (stAt 76) 15
abbrev s_Reader_read_start : Stmt := inClass (stAt 76) 16
abbrev s_Reader_read_entry : Stmt := inClass (stAt 76) 17
abbrev s_Reader_check_callees : Stmt := inClass (stAt 76) 18
abbrev s_Holder_init : Stmt := inClass (stAt 111) 0
abbrev s_Holder_load : Stmt := inClass (stAt 111) 1
abbrev s_Holder_answer : Stmt := inClass (stAt 111) 2
abbrev s_Holder_tell : Stmt := inClass (stAt 111) 3
abbrev s_Holder_reach : Stmt := inClass (stAt 111) 4
def d_choices_of : He.DefD := ⟨("choices_of", none), "choices_of", "choices_of", defArgs s_choices_of, defBody s_choices_of, defScope s_choices_of, [], []⟩
def d_choice_of : He.DefD := ⟨("choice_of", none), "choice_of", "choice_of", defArgs s_choice_of, defBody s_choice_of, defScope s_choice_of, [], []⟩
def d_made_name : He.DefD := ⟨("made_name", none), "made_name", "made_name", defArgs s_made_name, defBody s_made_name, defScope s_made_name, [], []⟩
def d_holds : He.DefD := ⟨("holds", none), "holds", "holds", defArgs s_holds, defBody s_holds, defScope s_holds, [], []⟩
def d_entered_by_runs : He.DefD := ⟨("entered_by_runs", none), "entered_by_runs", "entered_by_runs", defArgs s_entered_by_runs, defBody s_entered_by_runs, defScope s_entered_by_runs, [], []⟩
def d_tables_of : He.DefD := ⟨("tables_of", none), "tables_of", "tables_of", defArgs s_tables_of, defBody s_tables_of, defScope s_tables_of, [], []⟩
def d_table_of : He.DefD := ⟨("table_of", none), "table_of", "table_of", defArgs s_table_of, defBody s_table_of, defScope s_table_of, [], []⟩
def d_tell_names : He.DefD := ⟨("tell_names", none), "tell_names", "tell_names", defArgs s_tell_names, defBody s_tell_names, defScope s_tell_names, [], []⟩
def d_chains_by : He.DefD := ⟨("chains_by", none), "chains_by", "chains_by", defArgs s_chains_by, defBody s_chains_by, defScope s_chains_by, [], []⟩
def d_closest_of_all : He.DefD := ⟨("closest_of_all", none), "closest_of_all", "closest_of_all", defArgs s_closest_of_all, defBody s_closest_of_all, defScope s_closest_of_all, [], []⟩
def d_closest_among : He.DefD := ⟨("closest_among", none), "closest_among", "closest_among", defArgs s_closest_among, defBody s_closest_among, defScope s_closest_among, [], []⟩
def d_tokens_of : He.DefD := ⟨("tokens_of", none), "tokens_of", "tokens_of", defArgs s_tokens_of, defBody s_tokens_of, defScope s_tokens_of, [], []⟩
def d_as_text : He.DefD := ⟨("as_text", none), "as_text", "as_text", defArgs s_as_text, defBody s_as_text, defScope s_as_text, [], []⟩
def d_behind_blanks : He.DefD := ⟨("behind_blanks", none), "behind_blanks", "behind_blanks", defArgs s_behind_blanks, defBody s_behind_blanks, defScope s_behind_blanks, [], []⟩
def d_remark_end : He.DefD := ⟨("remark_end", none), "remark_end", "remark_end", defArgs s_remark_end, defBody s_remark_end, defScope s_remark_end, [], []⟩
def d_token_at : He.DefD := ⟨("token_at", none), "token_at", "token_at", defArgs s_token_at, defBody s_token_at, defScope s_token_at, [], []⟩
def d_number_at : He.DefD := ⟨("number_at", none), "number_at", "number_at", defArgs s_number_at, defBody s_number_at, defScope s_number_at, [], []⟩
def d_name_at : He.DefD := ⟨("name_at", none), "name_at", "name_at", defArgs s_name_at, defBody s_name_at, defScope s_name_at, [], []⟩
def d_run_end : He.DefD := ⟨("run_end", none), "run_end", "run_end", defArgs s_run_end, defBody s_run_end, defScope s_run_end, [], []⟩
def d_read_program : He.DefD := ⟨("read_program", none), "read_program", "read_program", defArgs s_read_program, defBody s_read_program, defScope s_read_program, [], []⟩
def d_check_room : He.DefD := ⟨("check_room", none), "check_room", "check_room", defArgs s_check_room, defBody s_check_room, defScope s_check_room, [], []⟩
def d_check_known : He.DefD := ⟨("check_known", none), "check_known", "check_known", defArgs s_check_known, defBody s_check_known, defScope s_check_known, [], []⟩
def d_one_form : He.DefD := ⟨("one_form", none), "one_form", "one_form", defArgs s_one_form, defBody s_one_form, defScope s_one_form, [], []⟩
def d_setting_row : He.DefD := ⟨("setting_row", none), "setting_row", "setting_row", defArgs s_setting_row, defBody s_setting_row, defScope s_setting_row, [], []⟩
def d_part_row : He.DefD := ⟨("part_row", none), "part_row", "part_row", defArgs s_part_row, defBody s_part_row, defScope s_part_row, [], []⟩
def d_bracketed : He.DefD := ⟨("bracketed", none), "bracketed", "bracketed", defArgs s_bracketed, defBody s_bracketed, defScope s_bracketed, [], []⟩
def d_statement_form : He.DefD := ⟨("statement_form", none), "statement_form", "statement_form", defArgs s_statement_form, defBody s_statement_form, defScope s_statement_form, [], []⟩
def d_shown : He.DefD := ⟨("shown", none), "shown", "shown", defArgs s_shown, defBody s_shown, defScope s_shown, [], []⟩
def d_chain : He.DefD := ⟨("chain", none), "chain", "chain", defArgs s_chain, defBody s_chain, defScope s_chain, [], []⟩
def d_lost : He.DefD := ⟨("lost", none), "lost", "lost", defArgs s_lost, defBody s_lost, defScope s_lost, [], []⟩
def d_tree : He.DefD := ⟨("tree", none), "tree", "tree", defArgs s_tree, defBody s_tree, defScope s_tree, [], []⟩
def d_shares : He.DefD := ⟨("shares", none), "shares", "shares", defArgs s_shares, defBody s_shares, defScope s_shares, [], []⟩
def d_around : He.DefD := ⟨("around", none), "around", "around", defArgs s_around, defBody s_around, defScope s_around, [], []⟩
def d_both : He.DefD := ⟨("both", none), "both", "both", defArgs s_both, defBody s_both, defScope s_both, [], []⟩
def d_heavy : He.DefD := ⟨("heavy", none), "heavy", "heavy", defArgs s_heavy, defBody s_heavy, defScope s_heavy, [], []⟩
def d_counted : He.DefD := ⟨("counted", none), "counted", "counted", defArgs s_counted, defBody s_counted, defScope s_counted, [], []⟩
def d_answers : He.DefD := ⟨("answers", none), "answers", "answers", defArgs s_answers, defBody s_answers, defScope s_answers, [], []⟩
def d_width_of : He.DefD := ⟨("width_of", none), "width_of", "width_of", defArgs s_width_of, defBody s_width_of, defScope s_width_of, [], []⟩
def d_has_mode : He.DefD := ⟨("has_mode", none), "has_mode", "has_mode", defArgs s_has_mode, defBody s_has_mode, defScope s_has_mode, [], []⟩
def d_has_parts : He.DefD := ⟨("has_parts", none), "has_parts", "has_parts", defArgs s_has_parts, defBody s_has_parts, defScope s_has_parts, [], []⟩
def d_Fault_init : He.DefD := ⟨("Fault", some "__init__"), "__init__", "Fault.__init__", defArgs s_Fault_init, defBody s_Fault_init, defScope s_Fault_init, [], []⟩
def d_Say_init : He.DefD := ⟨("Say", some "__init__"), "__init__", "Say.__init__", defArgs s_Say_init, defBody s_Say_init, defScope s_Say_init, [], []⟩
def d_Call_init : He.DefD := ⟨("Call", some "__init__"), "__init__", "Call.__init__", defArgs s_Call_init, defBody s_Call_init, defScope s_Call_init, [], []⟩
def d_Make_init : He.DefD := ⟨("Make", some "__init__"), "__init__", "Make.__init__", defArgs s_Make_init, defBody s_Make_init, defScope s_Make_init, [], []⟩
def d_When_init : He.DefD := ⟨("When", some "__init__"), "__init__", "When.__init__", defArgs s_When_init, defBody s_When_init, defScope s_When_init, [], []⟩
def d_Setting_init : He.DefD := ⟨("Setting", some "__init__"), "__init__", "Setting.__init__", defArgs s_Setting_init, defBody s_Setting_init, defScope s_Setting_init, [], []⟩
def d_Part_init : He.DefD := ⟨("Part", some "__init__"), "__init__", "Part.__init__", defArgs s_Part_init, defBody s_Part_init, defScope s_Part_init, [], []⟩
def d_Program_init : He.DefD := ⟨("Program", some "__init__"), "__init__", "Program.__init__", defArgs s_Program_init, defBody s_Program_init, defScope s_Program_init, [], []⟩
def d_Program_size_of : He.DefD := ⟨("Program", some "size_of"), "size_of", "Program.size_of", defArgs s_Program_size_of, defBody s_Program_size_of, defScope s_Program_size_of, [], []⟩
def d_Run_init : He.DefD := ⟨("Run", some "__init__"), "__init__", "Run.__init__", defArgs s_Run_init, defBody s_Run_init, defScope s_Run_init, [], []⟩
def d_Run_call_part : He.DefD := ⟨("Run", some "call_part"), "call_part", "Run.call_part", defArgs s_Run_call_part, defBody s_Run_call_part, defScope s_Run_call_part, [], []⟩
def d_Run_enter : He.DefD := ⟨("Run", some "enter"), "enter", "Run.enter", defArgs s_Run_enter, defBody s_Run_enter, defScope s_Run_enter, [], []⟩
def d_Run_do_all : He.DefD := ⟨("Run", some "do_all"), "do_all", "Run.do_all", defArgs s_Run_do_all, defBody s_Run_do_all, defScope s_Run_do_all, [], []⟩
def d_Run_do_one : He.DefD := ⟨("Run", some "do_one"), "do_one", "Run.do_one", defArgs s_Run_do_one, defBody s_Run_do_one, defScope s_Run_do_one, [], []⟩
def d_Run_make_part : He.DefD := ⟨("Run", some "make_part"), "make_part", "Run.make_part", defArgs s_Run_make_part, defBody s_Run_make_part, defScope s_Run_make_part, [], []⟩
def d_Reach_init : He.DefD := ⟨("Reach", some "__init__"), "__init__", "Reach.__init__", defArgs s_Reach_init, defBody s_Reach_init, defScope s_Reach_init, [], []⟩
def d_Reach_come_to : He.DefD := ⟨("Reach", some "come_to"), "come_to", "Reach.come_to", defArgs s_Reach_come_to, defBody s_Reach_come_to, defScope s_Reach_come_to, [], []⟩
def d_Reach_search : He.DefD := ⟨("Reach", some "search"), "search", "Reach.search", defArgs s_Reach_search, defBody s_Reach_search, defScope s_Reach_search, [], []⟩
def d_Reach_lost_with : He.DefD := ⟨("Reach", some "lost_with"), "lost_with", "Reach.lost_with", defArgs s_Reach_lost_with, defBody s_Reach_lost_with, defScope s_Reach_lost_with, [], []⟩
def d_Reach_size_lost : He.DefD := ⟨("Reach", some "size_lost"), "size_lost", "Reach.size_lost", defArgs s_Reach_size_lost, defBody s_Reach_size_lost, defScope s_Reach_size_lost, [], []⟩
def d_Token_init : He.DefD := ⟨("Token", some "__init__"), "__init__", "Token.__init__", defArgs s_Token_init, defBody s_Token_init, defScope s_Token_init, [], []⟩
def d_Reader_init : He.DefD := ⟨("Reader", some "__init__"), "__init__", "Reader.__init__", defArgs s_Reader_init, defBody s_Reader_init, defScope s_Reader_init, [], []⟩
def d_Reader_read : He.DefD := ⟨("Reader", some "read"), "read", "Reader.read", defArgs s_Reader_read, defBody s_Reader_read, defScope s_Reader_read, [], []⟩
def d_Reader_ahead : He.DefD := ⟨("Reader", some "ahead"), "ahead", "Reader.ahead", defArgs s_Reader_ahead, defBody s_Reader_ahead, defScope s_Reader_ahead, [], []⟩
def d_Reader_take : He.DefD := ⟨("Reader", some "take"), "take", "Reader.take", defArgs s_Reader_take, defBody s_Reader_take, defScope s_Reader_take, [], []⟩
def d_Reader_take_if : He.DefD := ⟨("Reader", some "take_if"), "take_if", "Reader.take_if", defArgs s_Reader_take_if, defBody s_Reader_take_if, defScope s_Reader_take_if, [], []⟩
def d_Reader_read_setting : He.DefD := ⟨("Reader", some "read_setting"), "read_setting", "Reader.read_setting", defArgs s_Reader_read_setting, defBody s_Reader_read_setting, defScope s_Reader_read_setting, [], []⟩
def d_Reader_read_word : He.DefD := ⟨("Reader", some "read_word"), "read_word", "Reader.read_word", defArgs s_Reader_read_word, defBody s_Reader_read_word, defScope s_Reader_read_word, [], []⟩
def d_Reader_read_part : He.DefD := ⟨("Reader", some "read_part"), "read_part", "Reader.read_part", defArgs s_Reader_read_part, defBody s_Reader_read_part, defScope s_Reader_read_part, [], []⟩
def d_Reader_read_amount : He.DefD := ⟨("Reader", some "read_amount"), "read_amount", "Reader.read_amount", defArgs s_Reader_read_amount, defBody s_Reader_read_amount, defScope s_Reader_read_amount, [], []⟩
def d_Reader_read_body : He.DefD := ⟨("Reader", some "read_body"), "read_body", "Reader.read_body", defArgs s_Reader_read_body, defBody s_Reader_read_body, defScope s_Reader_read_body, [], []⟩
def d_Reader_read_statement : He.DefD := ⟨("Reader", some "read_statement"), "read_statement", "Reader.read_statement", defArgs s_Reader_read_statement, defBody s_Reader_read_statement, defScope s_Reader_read_statement, [], []⟩
def d_Reader_read_say : He.DefD := ⟨("Reader", some "read_say"), "read_say", "Reader.read_say", defArgs s_Reader_read_say, defBody s_Reader_read_say, defScope s_Reader_read_say, [], []⟩
def d_Reader_read_call : He.DefD := ⟨("Reader", some "read_call"), "read_call", "Reader.read_call", defArgs s_Reader_read_call, defBody s_Reader_read_call, defScope s_Reader_read_call, [], []⟩
def d_Reader_read_make : He.DefD := ⟨("Reader", some "read_make"), "read_make", "Reader.read_make", defArgs s_Reader_read_make, defBody s_Reader_read_make, defScope s_Reader_read_make, [], []⟩
def d_Reader_read_piece : He.DefD := ⟨("Reader", some "read_piece"), "read_piece", "Reader.read_piece", defArgs s_Reader_read_piece, defBody s_Reader_read_piece, defScope s_Reader_read_piece, [], []⟩
def d_Reader_read_when : He.DefD := ⟨("Reader", some "read_when"), "read_when", "Reader.read_when", defArgs s_Reader_read_when, defBody s_Reader_read_when, defScope s_Reader_read_when, [], []⟩
def d_Reader_read_start : He.DefD := ⟨("Reader", some "read_start"), "read_start", "Reader.read_start", defArgs s_Reader_read_start, defBody s_Reader_read_start, defScope s_Reader_read_start, [], []⟩
def d_Reader_read_entry : He.DefD := ⟨("Reader", some "read_entry"), "read_entry", "Reader.read_entry", defArgs s_Reader_read_entry, defBody s_Reader_read_entry, defScope s_Reader_read_entry, [], []⟩
def d_Reader_check_callees : He.DefD := ⟨("Reader", some "check_callees"), "check_callees", "Reader.check_callees", defArgs s_Reader_check_callees, defBody s_Reader_check_callees, defScope s_Reader_check_callees, [], []⟩
def d_Holder_init : He.DefD := ⟨("Holder", some "__init__"), "__init__", "Holder.__init__", defArgs s_Holder_init, defBody s_Holder_init, defScope s_Holder_init, [], []⟩
def d_Holder_load : He.DefD := ⟨("Holder", some "load"), "load", "Holder.load", defArgs s_Holder_load, defBody s_Holder_load, defScope s_Holder_load, [], []⟩
def d_Holder_answer : He.DefD := ⟨("Holder", some "answer"), "answer", "Holder.answer", defArgs s_Holder_answer, defBody s_Holder_answer, defScope s_Holder_answer, [], []⟩
def d_Holder_tell : He.DefD := ⟨("Holder", some "tell"), "tell", "Holder.tell", defArgs s_Holder_tell, defBody s_Holder_tell, defScope s_Holder_tell, [], []⟩
def d_Holder_reach : He.DefD := ⟨("Holder", some "reach"), "reach", "Holder.reach", defArgs s_Holder_reach, defBody s_Holder_reach, defScope s_Holder_reach, [], []⟩
def fa0 : List He.Fa := [.glo "choices_of", .glo "choice_of", .glo "made_name", .glo "holds", .glo "entered_by_runs", .glo "tables_of", .glo "table_of", .glo "tell_names", .glo "chains_by", .glo "closest_of_all", .glo "closest_among", .glo "tokens_of", .glo "as_text", .glo "behind_blanks", .glo "remark_end", .glo "token_at", .glo "number_at", .glo "name_at", .glo "run_end", .glo "read_program", .glo "check_room", .glo "check_known", .glo "one_form", .glo "setting_row", .glo "part_row", .glo "bracketed", .glo "statement_form", .glo "shown", .glo "chain", .glo "lost", .glo "tree", .glo "shares", .glo "around", .glo "both", .glo "heavy", .glo "counted", .glo "answers", .glo "width_of", .glo "has_mode", .glo "has_parts"]
def fa1 : List He.Fa := [.glo "Fault", .exm "Fault" "Fault" true, .glo "Say", .cls "Say", .mkr "Say", .noat "Say" "amount", .glo "Call", .cls "Call", .mkr "Call", .noat "Call" "name", .glo "Make", .cls "Make", .mkr "Make", .noat "Make" "pieces", .glo "When", .cls "When", .mkr "When", .noat "When" "setting", .noat "When" "word", .noat "When" "body", .glo "Setting", .cls "Setting", .mkr "Setting", .noat "Setting" "name", .noat "Setting" "words", .glo "Part", .cls "Part", .mkr "Part", .noat "Part" "name", .noat "Part" "size", .noat "Part" "body", .glo "Program", .cls "Program", .mkr "Program", .noat "Program" "settings", .noat "Program" "parts", .noat "Program" "entries", .noat "Program" "numbers", .meth "Program" "size_of", .glo "Run"]
def fa2 : List He.Fa := [.cls "Run", .mkr "Run", .noat "Run" "program", .noat "Run" "choice", .noat "Run" "away", .noat "Run" "entered", .noat "Run" "within", .noat "Run" "done", .noat "Run" "ending", .meth "Run" "call_part", .meth "Run" "enter", .meth "Run" "do_all", .meth "Run" "do_one", .meth "Run" "make_part", .glo "Reach", .cls "Reach", .mkr "Reach", .noat "Reach" "program", .noat "Reach" "tables", .noat "Reach" "known", .meth "Reach" "come_to", .meth "Reach" "search", .meth "Reach" "lost_with", .meth "Reach" "size_lost", .glo "Token", .cls "Token", .mkr "Token", .noat "Token" "kind", .noat "Token" "text", .noat "Token" "place", .glo "Reader", .cls "Reader", .mkr "Reader", .noat "Reader" "tokens", .noat "Reader" "at", .noat "Reader" "settings", .noat "Reader" "parts", .noat "Reader" "entries", .noat "Reader" "callees", .meth "Reader" "read"]
def fa3 : List He.Fa := [.meth "Reader" "ahead", .meth "Reader" "take", .meth "Reader" "take_if", .meth "Reader" "read_setting", .meth "Reader" "read_word", .meth "Reader" "read_part", .meth "Reader" "read_amount", .meth "Reader" "read_body", .meth "Reader" "read_statement", .meth "Reader" "read_say", .meth "Reader" "read_call", .meth "Reader" "read_make", .meth "Reader" "read_piece", .meth "Reader" "read_when", .meth "Reader" "read_start", .meth "Reader" "read_entry", .meth "Reader" "check_callees", .glo "Holder", .cls "Holder", .mkr "Holder", .noat "Holder" "program", .noat "Holder" "reaches", .meth "Holder" "load", .meth "Holder" "answer", .meth "Holder" "tell", .meth "Holder" "reach", .int "TOO_LONG_faults" 1, .int "NO_TOKEN" 2, .int "NOT_ALLOWED" 3, .int "TOO_MANY" 4, .int "TOLD_BEFORE" 5, .int "ENTRY_TOLD_BEFORE" 6, .int "OUT_OF_RANGE" 7, .int "UNKNOWN_NAME" 8, .int "UNKNOWN_CALL" 9, .int "MOST_WITHIN" 9, .int "MOST_DONE" 100, .int "WELL" 0, .int "TOO_DEEP" 1, .int "TOO_LONG_runs" 2]
def fa4 : List He.Fa := [.int "MISSING" 3, .int "BY_BRANCHES" 1, .int "EXACTLY" 2, .int "LONGEST_TEXT" 4096, .int "LONGEST_NAME" 16, .int "GREATEST_NUMBER" 1000000000, .int "MOST_DIGITS" 10, .str "BLANKS" " \t\n", .str "REMARK" "#", .str "SIGNS" "+,:;{}", .str "DIGITS" "0123456789", .str "LETTERS" "ABCDEFGHIJKLMNOPQRSTUVWXYZabcdefghijklmnopqrstuvwxyz", .glo "RESERVED", .str "NAME" "name", .str "NUMBER" "number", .str "END" "end", .int "MOST_SETTINGS" 3, .int "MOST_WORDS" 4, .int "MOST_PARTS" 10, .int "MOST_ENTRIES" 4, .int "MOST_PIECES" 3, .int "DEEPEST_WHEN" 3, .int "GREATEST_AMOUNT" 99, .int "LOAD" 0, .int "SHOWN" 1, .int "CHAIN" 2, .int "LOST" 3, .int "TREE" 4, .int "SHARES" 5, .int "AROUND" 6, .int "BOTH" 7, .glo "MODES", .glo "PARTS", .int "NO_PROGRAM" 1, .int "NO_MODE" 2, .int "NO_PART" 4, .free "Exception", .free "all", .free "enumerate", .free "int"]
def fa5 : List He.Fa := [.free "isinstance", .free "len", .free "list", .free "min", .free "ord", .free "range", .free "set", .free "sorted", .free "str", .free "sum", .free "tuple"]
def fa : List He.Fa := fa0 ++ fa1 ++ fa2 ++ fa3 ++ fa4 ++ fa5
def fn0 : List He.DefD := [d_choices_of, d_choice_of, d_made_name, d_holds, d_entered_by_runs, d_tables_of, d_table_of, d_tell_names, d_chains_by, d_closest_of_all, d_closest_among, d_tokens_of, d_as_text, d_behind_blanks, d_remark_end, d_token_at, d_number_at, d_name_at, d_run_end, d_read_program, d_check_room, d_check_known, d_one_form, d_setting_row, d_part_row, d_bracketed, d_statement_form, d_shown, d_chain, d_lost, d_tree, d_shares, d_around, d_both, d_heavy, d_counted, d_answers, d_width_of, d_has_mode, d_has_parts]
def fn1 : List He.DefD := [d_Fault_init, d_Say_init, d_Call_init, d_Make_init, d_When_init, d_Setting_init, d_Part_init, d_Program_init, d_Program_size_of, d_Run_init, d_Run_call_part, d_Run_enter, d_Run_do_all, d_Run_do_one, d_Run_make_part, d_Reach_init, d_Reach_come_to, d_Reach_search, d_Reach_lost_with, d_Reach_size_lost, d_Token_init, d_Reader_init, d_Reader_read, d_Reader_ahead, d_Reader_take, d_Reader_take_if, d_Reader_read_setting, d_Reader_read_word, d_Reader_read_part, d_Reader_read_amount, d_Reader_read_body, d_Reader_read_statement, d_Reader_read_say, d_Reader_read_call, d_Reader_read_make, d_Reader_read_piece, d_Reader_read_when, d_Reader_read_start, d_Reader_read_entry, d_Reader_check_callees]
def fn2 : List He.DefD := [d_Holder_init, d_Holder_load, d_Holder_answer, d_Holder_tell, d_Holder_reach]
def fn : List He.DefD := fn0 ++ fn1 ++ fn2
def ex (K : PySem.W.Frag) : Bool := He.tupB K "RESERVED" [.str "set", .str "part", .str "size", .str "start", .str "say", .str "call", .str "make", .str "when", .str "is"] && (He.tupB K "MODES" [.int 0, .int 0, .int 2, .int 3, .int 0, .int 3, .int 0, .int 3, .int 3] && (eclB K (He.ga K "Fault") && (xfB K (He.ga K "Fault") && (decide (PySem.W.findIn K (.ref (He.ga K "Fault")) "code" = some none) && (decide (PySem.W.findIn K (.ref (He.ga K "Fault")) "place" = some none) && (decide (PySem.W.findIn K (.ref (He.ga K "Fault")) "__init__" = some (some (.ref (He.ma K (He.ga K "Fault") "__init__")))) && (decide (PySem.W.typeIn K (.ref (He.ma K (He.ga K "Fault") "__init__")) = some (.type "function")) && ((match PySem.W.findCls K (.type "Exception") (.type "type") "__init__" with | some (.val v) => decide (v = .builtin "Exception.__init__") | _ => false) && (isiB K ["Say", "Call", "Make", "When"] ["Say", "Call", "Make", "When"] && (He.tupB K "PARTS" [.int 0, .int 0, .int 1, .int 1, .int 0, .int 0, .int 2, .int 2, .int 0]))))))))))
def loose0 : List PySem.Str := [("AROUND" : PySem.Str), ("BLANKS" : PySem.Str), ("BOTH" : PySem.Str), ("BY_BRANCHES" : PySem.Str), ("CHAIN" : PySem.Str), ("Call" : PySem.Str), ("DEEPEST_WHEN" : PySem.Str), ("DIGITS" : PySem.Str), ("END" : PySem.Str), ("ENTRY_TOLD_BEFORE" : PySem.Str), ("EXACTLY" : PySem.Str), ("Fault" : PySem.Str), ("GREATEST_AMOUNT" : PySem.Str), ("GREATEST_NUMBER" : PySem.Str), ("Holder" : PySem.Str), ("LETTERS" : PySem.Str), ("LOAD" : PySem.Str), ("LONGEST_NAME" : PySem.Str), ("LONGEST_TEXT" : PySem.Str), ("LOST" : PySem.Str), ("MISSING" : PySem.Str), ("MODES" : PySem.Str), ("MOST_DIGITS" : PySem.Str), ("MOST_DONE" : PySem.Str), ("MOST_ENTRIES" : PySem.Str), ("MOST_PARTS" : PySem.Str), ("MOST_PIECES" : PySem.Str), ("MOST_SETTINGS" : PySem.Str), ("MOST_WITHIN" : PySem.Str), ("MOST_WORDS" : PySem.Str), ("Make" : PySem.Str), ("NAME" : PySem.Str), ("NOT_ALLOWED" : PySem.Str), ("NO_MODE" : PySem.Str), ("NO_PART" : PySem.Str), ("NO_PROGRAM" : PySem.Str), ("NO_TOKEN" : PySem.Str), ("NUMBER" : PySem.Str), ("OUT_OF_RANGE" : PySem.Str), ("PARTS" : PySem.Str)]
def loose1 : List PySem.Str := [("Part" : PySem.Str), ("Program" : PySem.Str), ("REMARK" : PySem.Str), ("RESERVED" : PySem.Str), ("Reach" : PySem.Str), ("Reader" : PySem.Str), ("Run" : PySem.Str), ("SHARES" : PySem.Str), ("SHOWN" : PySem.Str), ("SIGNS" : PySem.Str), ("Say" : PySem.Str), ("Setting" : PySem.Str), ("TOLD_BEFORE" : PySem.Str), ("TOO_DEEP" : PySem.Str), ("TOO_LONG_faults" : PySem.Str), ("TOO_LONG_runs" : PySem.Str), ("TOO_MANY" : PySem.Str), ("TREE" : PySem.Str), ("Token" : PySem.Str), ("UNKNOWN_CALL" : PySem.Str), ("UNKNOWN_NAME" : PySem.Str), ("WELL" : PySem.Str), ("When" : PySem.Str), ("around" : PySem.Str), ("as_text" : PySem.Str), ("behind_blanks" : PySem.Str), ("both" : PySem.Str), ("bracketed" : PySem.Str), ("chain" : PySem.Str), ("chains_by" : PySem.Str), ("check_known" : PySem.Str), ("check_room" : PySem.Str), ("choice_of" : PySem.Str), ("choices_of" : PySem.Str), ("closest_among" : PySem.Str), ("closest_of_all" : PySem.Str), ("counted" : PySem.Str), ("entered_by_runs" : PySem.Str), ("has_mode" : PySem.Str), ("has_parts" : PySem.Str)]
def loose2 : List PySem.Str := [("heavy" : PySem.Str), ("holds" : PySem.Str), ("lost" : PySem.Str), ("made_name" : PySem.Str), ("name_at" : PySem.Str), ("number_at" : PySem.Str), ("one_form" : PySem.Str), ("part_row" : PySem.Str), ("read_program" : PySem.Str), ("remark_end" : PySem.Str), ("run_end" : PySem.Str), ("setting_row" : PySem.Str), ("shares" : PySem.Str), ("shown" : PySem.Str), ("statement_form" : PySem.Str), ("table_of" : PySem.Str), ("tables_of" : PySem.Str), ("tell_names" : PySem.Str), ("token_at" : PySem.Str), ("tokens_of" : PySem.Str), ("tree" : PySem.Str), ("width_of" : PySem.Str)]
def loose : List PySem.Str := loose0 ++ loose1 ++ loose2
/-- the defs that make a lambda -/
def tf : List He.Defn := [("heavy", none)]
abbrev R : PySem.W.OpenSpec := PySem.Challenge.rw_whykept_s01_answers
abbrev hk : PySem.W.Hook := He.hookX 4 fa fn [] tf ex
def ob (s : PySem.W.SharedT) : He.AlX := He.obsX 4 fa fn [] tf ex (HandSHeadRun.getT s)
theorem ob_eq (s : PySem.W.SharedT) : ob s = hk.obs s.abs := He.obsX_eq (HandSHeadRun.getT_eq s)
/-- what the statement asks of the row and of the text: told once, since each look costs the kernel half a minute and 5 GB -/
theorem row_said : R.wellSaid = true := by decide +kernel
theorem row_ok : (PySem.W.chainsOk (PySem.W.view R.prog [109]) && PySem.W.opensWell R.prog) = true := by decide +kernel
/-! the run is looked at four times: by the library's looks, by the facts, by the defs, by the rest: each look alone wants less memory than all at once -/
abbrev run_view : Program := PySem.W.view R.prog [109]
noncomputable abbrev run_ends (w : World) (os : OsState) : Option PySem.W.SharedT := HandSHeadRun.endF (HandSHeadRun.stepQ (HandSHeadRun.denQ HandSHeadRun.tabQ) R.prog w) 6000 R.prog w os
theorem run_looks (w : World) (os : OsState) : (run_ends w os).map (fun s => (HandSHeadRun.looksF R.prog (PySem.W.boot_heap w.params) s.abs, HandSHeadRun.seenQ run_view loose (importedModules R.prog.main.body) (fun s => PySem.W.xlAt run_view [] s && PySem.W.recOk [] s) s.abs)) = some (true, PySem.W.openGood run_view loose) := by
  kernel_rfl
theorem run_fa (w : World) (os : OsState) : (run_ends w os).map (fun s => He.obsX 4 fa [] [] [] (fun _ => true) (HandSHeadRun.getT s)) = some (He.valX [] [] w) := by
  kernel_rfl
theorem run_fn (w : World) (os : OsState) : (run_ends w os).map (fun s => He.obsX 4 [] fn [] [] (fun _ => true) (HandSHeadRun.getT s)) = some (He.valX fn [] w) := by
  kernel_rfl
theorem run_ex (w : World) (os : OsState) : (run_ends w os).map (fun s => He.obsX 4 [] [] [] tf ex (HandSHeadRun.getT s)) = some (He.valX [] [] w) := by
  kernel_rfl
theorem obs_joined {a b c d : Bool} {l m : List He.FnW} (h1 : a = true) (h2 : b = true) (h3 : l = m) (h4 : (c && d) = true) : ((((a && b, l), ([] : List (Option (List (Option (Str × Int)))))), c && d) : He.AlX) = (((true, m), []), true) := by
  subst h1 h2 h3
  rw [h4] <;> rfl
theorem run (w : World) : HandSHeadRun.RunEqS R run_view hk ob 6000 loose w := by
  intro os
  have h1 := run_looks w os
  have h2 := run_fa w os
  have h3 := run_fn w os
  have h4 := run_ex w os
  show (run_ends w os).map _ = _
  revert h1 h2 h3 h4
  generalize run_ends w os = o
  intro h1 h2 h3 h4
  cases o with
  | none => cases h1
  | some s =>
    have e1 := Option.some.inj h1
    have e2 := Option.some.inj h2
    have e3 := Option.some.inj h3
    have e4 := Option.some.inj h4
    have b1 : ((fa.all fun f => f.ok (He.frT (HandSHeadRun.getT s) (He.asD (HandSHeadRun.getT s) 4))) && true) = true := congrArg (fun z : He.AlX => z.1.1.1) e2
    have b2 : (true && fn.all fun d => d.ok (He.frT (HandSHeadRun.getT s) (He.asD (HandSHeadRun.getT s) 4))) = true := congrArg (fun z : He.AlX => z.1.1.1) e3
    have b3 : (fn.map fun d => He.fnW (He.frT (HandSHeadRun.getT s) (He.asD (HandSHeadRun.getT s) 4)) d.at_) = fn.map He.DefD.val := congrArg (fun z : He.AlX => z.1.1.2) e3
    have b4 : (ex (He.frT (HandSHeadRun.getT s) (He.asD (HandSHeadRun.getT s) 4)) && He.tabsB (HandSHeadRun.getT s) tf (He.frT (HandSHeadRun.getT s) (He.asD (HandSHeadRun.getT s) 4))) = true := congrArg (fun z : He.AlX => z.2) e4
    have hob : ob s = hk.val w := obs_joined ((Bool.and_true _).symm.trans b1) ((Bool.true_and _).symm.trans b2) b3 b4
    exact congrArg some (Prod.ext (congrArg (fun z => z.1) e1) (Prod.ext (congrArg (fun z => z.2) e1) hob))
end Vf

set_option linter.all false
set_option maxHeartbeats 1000000
/-! The mathematics of the lexing: fuel is of no account, one step at a place, bytes that mean nothing. -/
namespace Vf
open VakepBase
theorem all_bytes {p : UInt8 → Bool} (h : (List.range 256).all (fun n => p (UInt8.ofNat n)) = true) (c : UInt8) : p c = true := by
  have e : UInt8.ofNat c.toNat = c := UInt8.ofNat_toNat
  have m := List.all_eq_true.mp h c.toNat (List.mem_range.mpr c.toNat_lt)
  rw [e] at m
  exact m
theorem token_len {l : Bytes} {t : Tok} {k : Nat} (h : token l = some (t, k)) : 0 < k ∧ k ≤ l.length := by
  unfold token at h
  match l, h with
  | b :: r, h =>
    dsimp only at h
    split at h
    · rename_i hl
      split at h
      · cases h
      · obtain ⟨rfl, rfl⟩ := Prod.mk.inj (Option.some.inj h)
        constructor
        · rw [List.takeWhile_cons, if_pos (by simp [hl])]
          simp
        · exact (List.takeWhile_sublist _).length_le
    · split at h
      · rename_i hd
        cases q : numberOf ((b :: r).takeWhile isDigit) with
        | none =>
          rw [q] at h
          cases h
        | some n =>
          rw [q] at h
          obtain ⟨rfl, rfl⟩ := Prod.mk.inj (Option.some.inj h)
          constructor
          · rw [List.takeWhile_cons, if_pos hd]
            simp
          · exact (List.takeWhile_sublist _).length_le
      · split at h
        · obtain ⟨rfl, rfl⟩ := Prod.mk.inj (Option.some.inj h)
          simp
        · cases h
theorem lex_cons (n a : Nat) (b : UInt8) (r : Bytes) : lex (n + 1) a (b :: r) = if isBlank b = true then lex n (a + 1) r
    else if b == 35 then lex n (a + 1 + (r.takeWhile (· != 10)).length) (r.dropWhile (· != 10))
    else match token (b :: r) with
      | none => .error ⟨2, a⟩
      | some x => (lex n (a + x.2) ((b :: r).drop x.2)).map fun l => ⟨a, x.1⟩ :: l := by
  rw [lex] <;> rfl
theorem lex_fuel : ∀ (n m a : Nat) (l : Bytes), l.length < n → l.length < m → lex n a l = lex m a l
  | 0, _, _, _, h, _ => absurd h (Nat.not_lt_zero _)
  | _ + 1, 0, _, _, _, h => absurd h (Nat.not_lt_zero _)
  | n + 1, m + 1, a, [], _, _ => rfl
  | n + 1, m + 1, a, b :: r, h1, h2 => by
    have l1 : r.length < n := by simpa using h1
    have l2 : r.length < m := by simpa using h2
    unfold lex
    split
    · exact lex_fuel n m _ r l1 l2
    · split
      · have q : (r.dropWhile (· != 10)).length ≤ r.length := (List.dropWhile_sublist _).length_le
        exact lex_fuel n m _ _ (by omega) (by omega)
      · split
        · rfl
        · rename_i x e
          obtain ⟨t, k⟩ := x
          obtain ⟨k0, k1⟩ := token_len e
          have q : ((b :: r).drop k).length ≤ r.length := by
            rw [List.length_drop, List.length_cons]
            omega
          rw [lex_fuel n m _ ((b :: r).drop k) (by omega) (by omega)]
/-- all tokens from the place i on -/
def LX (b : Bytes) (i : Nat) : Except Fault Toks := lex (b.length + 1) i (b.drop i)
theorem LX_eq (b : Bytes) (i n : Nat) (h : (b.drop i).length < n) : LX b i = lex n i (b.drop i) := lex_fuel _ _ _ _ (by rw [List.length_drop]; omega) h
theorem LX_end {b : Bytes} {i : Nat} (h : b.length ≤ i) : LX b i = .ok [⟨i, .last⟩] := by
  unfold LX
  rw [List.drop_eq_nil_of_le h] <;> rfl
theorem drop_at {α : Type} {l : List α} {j : Nat} {c : α} (h : l[j]? = some c) : l.drop j = c :: l.drop (j + 1) := by
  obtain ⟨hj, e⟩ := List.getElem?_eq_some_iff.mp h
  rw [List.drop_eq_getElem_cons hj, e]
theorem LX_blank {b : Bytes} {i : Nat} {c : UInt8} (h : b[i]? = some c) (hc : isBlank c = true) : LX b i = LX b (i + 1) := by
  unfold LX
  rw [drop_at h]
  have hi := (List.getElem?_eq_some_iff.mp h).1
  rw [lex_cons, if_pos hc]
  refine lex_fuel _ _ _ _ ?_ ?_ <;> rw [List.length_drop] <;> omega
/-- how many bytes of a remark stand from i on -/
def remLen (b : Bytes) (i : Nat) : Nat := ((b.drop i).takeWhile (· != 10)).length
theorem drop_takeWhile {α : Type} (p : α → Bool) (l : List α) : l.drop (l.takeWhile p).length = l.dropWhile p := by
  induction l with
  | nil => rfl
  | cons a r ih =>
    rw [List.takeWhile_cons, List.dropWhile_cons]
    split
    · rw [List.length_cons, List.drop_succ_cons, ih]
    · rfl
theorem LX_rem {b : Bytes} {i : Nat} (h : b[i]? = some 35) : LX b i = LX b (i + remLen b i) := by
  have hi := (List.getElem?_eq_some_iff.mp h).1
  have e1 : remLen b i = 1 + ((b.drop (i + 1)).takeWhile (· != 10)).length := by
    unfold remLen
    rw [drop_at h, List.takeWhile_cons, if_pos (by decide), List.length_cons]
    omega
  unfold LX
  rw [e1]
  have e2 : b.drop (i + (1 + ((b.drop (i + 1)).takeWhile (· != 10)).length)) = (b.drop (i + 1)).dropWhile (· != 10) := by
    rw [← Nat.add_assoc, ← List.drop_drop, drop_takeWhile]
  rw [e2, drop_at h]
  rw [lex_cons, if_neg (by decide), if_pos (by decide)]
  have q : ((b.drop (i + 1)).dropWhile (· != 10)).length ≤ (b.drop (i + 1)).length := (List.dropWhile_sublist _).length_le
  rw [List.length_drop] at q
  rw [← Nat.add_assoc]
  refine lex_fuel _ _ _ _ ?_ ?_ <;> omega
theorem LX_tok {b : Bytes} {i : Nat} {c : UInt8} (h : b[i]? = some c) (h1 : isBlank c = false) (h2 : c ≠ 35) :
    LX b i = match token (b.drop i) with
      | none => .error ⟨2, i⟩
      | some x => (LX b (i + x.2)).map fun l => ⟨i, x.1⟩ :: l := by
  have hi := (List.getElem?_eq_some_iff.mp h).1
  have e0 : LX b i = lex (b.length + 1) i (c :: b.drop (i + 1)) := by
    unfold LX
    rw [drop_at h]
  rw [e0, drop_at h, lex_cons, if_neg (by rw [h1]; decide), if_neg (by simpa using h2)]
  cases q : token (c :: b.drop (i + 1)) with
  | none => rfl
  | some x =>
    obtain ⟨t, k⟩ := x
    obtain ⟨k0, k1⟩ := token_len q
    show (lex b.length (i + k) ((c :: b.drop (i + 1)).drop k)).map _ = (LX b (i + k)).map _
    have e : (c :: b.drop (i + 1)).drop k = b.drop (i + k) := by
      rw [← drop_at h, List.drop_drop]
    rw [e, LX_eq b (i + k) b.length (by rw [List.length_drop]; omega)]
/-! ### bytes that mean nothing -/
def known (c : UInt8) : Bool := isBlank c || (c == 35 || (isLetter c || (isDigit c || SIGNS.contains c)))
def san (c : UInt8) : UInt8 := if known c = true then c else 63
theorem san_letter (c : UInt8) : isLetter (san c) = isLetter c := by
  have h := all_bytes (p := fun c => isLetter (san c) == isLetter c) (by decide +kernel) c
  exact eq_of_beq h
theorem san_digit (c : UInt8) : isDigit (san c) = isDigit c := by
  have h := all_bytes (p := fun c => isDigit (san c) == isDigit c) (by decide +kernel) c
  exact eq_of_beq h
theorem san_blank (c : UInt8) : isBlank (san c) = isBlank c := by
  have h := all_bytes (p := fun c => isBlank (san c) == isBlank c) (by decide +kernel) c
  exact eq_of_beq h
theorem san_sign (c : UInt8) : SIGNS.contains (san c) = SIGNS.contains c := by
  have h := all_bytes (p := fun c => SIGNS.contains (san c) == SIGNS.contains c) (by decide +kernel) c
  exact eq_of_beq h
theorem san_rem (c : UInt8) : (san c == 35) = (c == 35) := by
  have h := all_bytes (p := fun c => (san c == 35) == (c == 35)) (by decide +kernel) c
  exact eq_of_beq h
theorem san_line (c : UInt8) : (san c != 10) = (c != 10) := by
  have h := all_bytes (p := fun c => (san c != 10) == (c != 10)) (by decide +kernel) c
  exact eq_of_beq h
theorem san_known {c : UInt8} (h : known c = true) : san c = c := if_pos h
theorem map_takeWhile {α β : Type} (f : α → β) (p : β → Bool) (q : α → Bool) (h : ∀ a, p (f a) = q a) : ∀ l : List α, (l.map f).takeWhile p = (l.takeWhile q).map f
  | [] => rfl
  | a :: r => by
    rw [List.map_cons, List.takeWhile_cons, List.takeWhile_cons, h]
    split
    · rw [List.map_cons, map_takeWhile f p q h r]
    · rfl
theorem map_dropWhile {α β : Type} (f : α → β) (p : β → Bool) (q : α → Bool) (h : ∀ a, p (f a) = q a) : ∀ l : List α, (l.map f).dropWhile p = (l.dropWhile q).map f
  | [] => rfl
  | a :: r => by
    rw [List.map_cons, List.dropWhile_cons, List.dropWhile_cons, h]
    split
    · exact map_dropWhile f p q h r
    · rfl
theorem map_id_of {l : Bytes} {q : UInt8 → Bool} (hq : ∀ c, q c = true → known c = true) : (l.takeWhile q).map san = l.takeWhile q := by
  induction l with
  | nil => rfl
  | cons a r ih =>
    rw [List.takeWhile_cons]
    split
    · rename_i h
      rw [List.map_cons, ih, san_known (hq a h)]
    · rfl
theorem token_san (l : Bytes) : token (l.map san) = token l := by
  cases l with
  | nil => rfl
  | cons b r =>
    have w1 : (san b :: r.map san).takeWhile (fun c => isLetter c || isDigit c) = (b :: r).takeWhile fun c => isLetter c || isDigit c := by
      rw [← List.map_cons, map_takeWhile san _ (fun c => isLetter c || isDigit c) (fun a => by rw [san_letter, san_digit])]
      refine map_id_of fun c h => ?_
      unfold known
      simp only [Bool.or_eq_true] at h ⊢
      rcases h with h | h
      · exact .inr (.inr (.inl h))
      · exact .inr (.inr (.inr (.inl h)))
    have w2 : (san b :: r.map san).takeWhile isDigit = (b :: r).takeWhile isDigit := by
      rw [← List.map_cons, map_takeWhile san _ isDigit san_digit]
      refine map_id_of fun c h => ?_
      unfold known
      simp only [Bool.or_eq_true]
      exact .inr (.inr (.inr (.inl h)))
    rw [List.map_cons]
    unfold token
    dsimp only
    rw [san_letter, san_digit, san_sign, w1, w2]
    by_cases hs : SIGNS.contains b = true
    · have e : san b = b := san_known (by unfold known; rw [hs]; simp)
      rw [e]
    · rw [if_neg hs, if_neg hs]
theorem lex_san : ∀ (n a : Nat) (l : Bytes), lex n a (l.map san) = lex n a l
  | 0, _, _ => rfl
  | n + 1, _, [] => rfl
  | n + 1, a, b :: r => by
    rw [List.map_cons]
    unfold lex
    rw [san_blank, san_rem]
    split
    · exact lex_san n _ r
    · split
      · rw [map_takeWhile san _ (· != 10) san_line, map_dropWhile san _ (· != 10) san_line, List.length_map]
        exact lex_san n _ _
      · rw [← List.map_cons, token_san]
        split
        · rfl
        · rename_i x _
          rw [← List.map_drop, lex_san n _ ((b :: r).drop x.2)]
theorem LX_san (b : Bytes) : LX (b.map san) 0 = lex (b.length + 1) 0 b := by
  unfold LX
  rw [List.drop_zero, List.length_map, lex_san]
end Vf

set_option linter.all false
set_option maxHeartbeats 1000000
/-! One statement of the specification's reading, and how rows of them go on. -/
namespace Vf
open VakepBase
open Vakepa (Raw Piece RawPart takeNat takePieces takeStmts SIZE DEEP)
/-- one row behind another -/
def rapp : Raw → Raw → Raw
  | .done, r => r
  | .say k t, r => .say k (rapp t r)
  | .call p t, r => .call p (rapp t r)
  | .make ps t, r => .make ps (rapp t r)
  | .when_ x v b t, r => .when_ x v b (rapp t r)
theorem rapp_done : ∀ x : Raw, rapp x .done = x
  | .done => rfl
  | .say k t => by rw [rapp, rapp_done]
  | .call p t => by rw [rapp, rapp_done]
  | .make ps t => by rw [rapp, rapp_done]
  | .when_ x v b t => by rw [rapp, rapp_done]
theorem rapp_assoc : ∀ x y z : Raw, rapp (rapp x y) z = rapp x (rapp y z)
  | .done, _, _ => rfl
  | .say k t, y, z => by simp only [rapp, rapp_assoc t y z]
  | .call p t, y, z => by simp only [rapp, rapp_assoc t y z]
  | .make ps t, y, z => by simp only [rapp, rapp_assoc t y z]
  | .when_ x v b t, y, z => by simp only [rapp, rapp_assoc t y z]
/-- the names that are called, in order -/
def callees : Raw → List PName
  | .done => []
  | .say _ r => callees r
  | .call p r => p :: callees r
  | .make _ r => callees r
  | .when_ _ _ b r => callees b ++ callees r
theorem callees_app : ∀ x y : Raw, callees (rapp x y) = callees x ++ callees y
  | .done, _ => rfl
  | .say k t, y => by simp only [rapp, callees, callees_app t y]
  | .call p t, y => by simp only [rapp, callees, callees_app t y, List.cons_append]
  | .make ps t, y => by simp only [rapp, callees, callees_app t y]
  | .when_ x v b t, y => by simp only [rapp, callees, callees_app t y, List.append_assoc]
abbrev Sets := List Vakepa.Setting
def oneSay (l : Toks) : Except Fault (Raw × Toks) := (takeNat SIZE (l.drop 1)).bind fun k => (takeSign 59 k.2).map fun r => (.say k.1 .done, r)
def oneCall (l : Toks) : Except Fault (Raw × Toks) := (takeName (l.drop 1)).bind fun p => (takeSign 59 p.2).map fun r => (.call p.1 .done, r)
def oneMake (ss : Sets) (l : Toks) : Except Fault (Raw × Toks) := (takePieces ss (l.length + 1) [] (l.drop 1)).map fun p => (.make p.1 .done, p.2)
def oneWhen (ss : Sets) (n d : Nat) (l : Toks) : Except Fault (Raw × Toks) :=
  (takeWord "when" l).bind fun r => if DEEP ≤ d then .error ⟨4, here l⟩ else (takeName r).bind fun x => match ss.findIdx? fun s => s.name == x.1.name with
    | none => .error ⟨8, x.1.place⟩
    | some k => (takeWord "is" x.2).bind fun r => (takeName r).bind fun v => match ((ss[k]?).map fun s => s.values).bind fun vs => vs.findIdx? fun y => y == v.1.name with
      | none => .error ⟨8, v.1.place⟩
      | some j => (takeSign 123 v.2).bind fun r => (takeStmts ss n (d + 1) r).map fun b => (.when_ k j b.1 .done, b.2)
/-- the next statement -/
def one (ss : Sets) (n d : Nat) (l : Toks) : Except Fault (Raw × Toks) :=
  if nextWord "say" l = true then oneSay l
  else if nextWord "call" l = true then oneCall l
  else if nextWord "make" l = true then oneMake ss l
  else oneWhen ss n d l
theorem bind_map {a b c : Type} (x : Except Fault a) (f : a → b) (g : b → Except Fault c) : (x.map f).bind g = x.bind fun y => g (f y) := by cases x <;> rfl
theorem bind_assoc {a b c : Type} (x : Except Fault a) (f : a → Except Fault b) (g : b → Except Fault c) : (x.bind f).bind g = x.bind fun y => (f y).bind g := by cases x <;> rfl
theorem map_eq {a b : Type} (x : Except Fault a) (f : a → b) : x.map f = x.bind fun y => .ok (f y) := by cases x <;> rfl
theorem bind_congr {a b : Type} (x : Except Fault a) {f g : a → Except Fault b} (h : ∀ y, f y = g y) : x.bind f = x.bind g := by
  cases x with
  | error e => rfl
  | ok y => exact h y
theorem stmts_one (ss : Sets) (n d : Nat) (l : Toks) : takeStmts ss (n + 1) d l = if next (.sign 125) l = true then .ok (.done, l.drop 1)
    else (one ss n d l).bind fun x => (takeStmts ss n d x.2).map fun y => (rapp x.1 y.1, y.2) := by
  rw [takeStmts]
  unfold one
  split
  · rfl
  · split
    · unfold oneSay
      rw [bind_assoc]
      refine bind_congr _ fun k => ?_
      rw [bind_map] <;> rfl
    · split
      · unfold oneCall
        rw [bind_assoc]
        refine bind_congr _ fun k => ?_
        rw [bind_map] <;> rfl
      · split
        · unfold oneMake
          rw [bind_map] <;> rfl
        · unfold oneWhen
          rw [bind_assoc]
          refine bind_congr _ fun r => ?_
          split
          · rfl
          · rw [bind_assoc]
            refine bind_congr _ fun x => ?_
            cases ss.findIdx? fun s => s.name == x.1.name with
            | none => rfl
            | some k =>
              dsimp only
              rw [bind_assoc]
              refine bind_congr _ fun r => ?_
              rw [bind_assoc]
              refine bind_congr _ fun v => ?_
              cases ((ss[k]?).map fun s => s.values).bind fun vs => vs.findIdx? fun y => y == v.1.name with
              | none => rfl
              | some j =>
                dsimp only
                rw [bind_assoc]
                refine bind_congr _ fun r => ?_
                rw [bind_map] <;> rfl
end Vf

set_option linter.all false
set_option maxHeartbeats 1000000
/-! Pieces, words, entries of the specification's reading, one at a time. -/
namespace Vf
open VakepBase
open Vakepa (Raw Piece RawPart takeNat takePieces takeValues takeStarts pieceOf PIECES VALUES STARTS)
def P1 (ss : Sets) (ps : List Piece) (l : Toks) : Except Fault (List Piece × Toks) := (takeName l).bind fun x => if PIECES ≤ ps.length then .error ⟨4, x.1.place⟩ else .ok (ps ++ [pieceOf ss x.1.name], x.2)
def pTail (ss : Sets) (n : Nat) (y : List Piece × Toks) : Except Fault (List Piece × Toks) := if next (.sign 43) y.2 = true then takePieces ss n y.1 (y.2.drop 1) else (takeSign 59 y.2).map fun m => (y.1, m)
theorem pieces_one (ss : Sets) (n : Nat) (ps : List Piece) (l : Toks) : takePieces ss (n + 1) ps l = (P1 ss ps l).bind (pTail ss n) := by
  rw [takePieces]
  unfold P1
  rw [bind_assoc]
  refine bind_congr _ fun x => ?_
  split <;> rfl
def W1 (vs : List Bytes) (l : Toks) : Except Fault (List Bytes × Toks) := (takeName l).bind fun x => if VALUES ≤ vs.length then .error ⟨4, x.1.place⟩ else if vs.contains x.1.name = true then .error ⟨5, x.1.place⟩ else .ok (vs ++ [x.1.name], x.2)
def wTail (n : Nat) (y : List Bytes × Toks) : Except Fault (List Bytes × Toks) := if next (.sign 44) y.2 = true then takeValues n y.1 (y.2.drop 1) else (takeSign 59 y.2).map fun m => (y.1, m)
theorem values_one (n : Nat) (vs : List Bytes) (l : Toks) : takeValues (n + 1) vs l = (W1 vs l).bind (wTail n) := by
  rw [takeValues]
  unfold W1
  rw [bind_assoc]
  refine bind_congr _ fun x => ?_
  split
  · rfl
  · split <;> rfl
def E1 (names : List Bytes) (es : List Nat) (l : Toks) : Except Fault (List Nat × Toks) := (takeName l).bind fun x => if STARTS ≤ es.length then .error ⟨4, x.1.place⟩ else match names.findIdx? fun y => y == x.1.name with
  | none => .error ⟨8, x.1.place⟩
  | some k => if es.contains k = true then .error ⟨6, x.1.place⟩ else .ok (es ++ [k], x.2)
def eTail (names : List Bytes) (n : Nat) (y : List Nat × Toks) : Except Fault (List Nat) := if next (.sign 44) y.2 = true then takeStarts names n y.1 (y.2.drop 1) else (takeSign 59 y.2).bind fun m => if next .last m = true then .ok y.1 else wrong m
theorem starts_one (names : List Bytes) (n : Nat) (es : List Nat) (l : Toks) : takeStarts names (n + 1) es l = (E1 names es l).bind (eTail names n) := by
  rw [takeStarts]
  unfold E1
  rw [bind_assoc]
  refine bind_congr _ fun x => ?_
  split
  · rfl
  · cases names.findIdx? fun y => y == x.1.name with
    | none => rfl
    | some k =>
      dsimp only
      split <;> rfl
def S1 (ss : Sets) (l : Toks) : Except Fault (Sets × Toks) := if Vakepa.SETS ≤ ss.length then .error ⟨4, here l⟩ else (takeName (l.drop 1)).bind fun x => if ss.any (fun s => s.name == x.1.name) = true then .error ⟨5, x.1.place⟩ else
  (takeSign 58 x.2).bind fun r => (takeValues (r.length + 1) [] r).bind fun v => .ok (ss ++ [⟨x.1.name, v.1⟩], v.2)
theorem sets_one (n : Nat) (ss : Sets) (l : Toks) : Vakepa.takeSets (n + 1) ss l = if nextWord "set" l = true then (S1 ss l).bind fun y => Vakepa.takeSets n y.1 y.2 else .ok (ss, l) := by
  rw [Vakepa.takeSets]
  split
  · unfold S1
    split
    · rfl
    · rw [bind_assoc]
      refine bind_congr _ fun x => ?_
      split
      · rfl
      · rw [bind_assoc]
        refine bind_congr _ fun r => ?_
        rw [bind_assoc]
        refine bind_congr _ fun v => ?_
        rfl
  · rfl
def G1 (ss : Sets) (ps : List RawPart) (l : Toks) : Except Fault (List RawPart × Toks) := if Vakepa.PARTS ≤ ps.length then .error ⟨4, here l⟩ else (takeName (l.drop 1)).bind fun x => if ps.any (fun p => p.name == x.1.name) = true ∨ ss.any (fun s => s.name == x.1.name) = true then .error ⟨5, x.1.place⟩ else
  (takeWord "size" x.2).bind fun r => (takeNat Vakepa.SIZE r).bind fun k => (takeSign 123 k.2).bind fun r => (Vakepa.takeStmts ss (r.length + 1) 0 r).bind fun b => .ok (ps ++ [⟨x.1.name, k.1, b.1⟩], b.2)
theorem parts_one (ss : Sets) (n : Nat) (ps : List RawPart) (l : Toks) : Vakepa.takeParts ss (n + 1) ps l = if nextWord "part" l = true then (G1 ss ps l).bind fun y => Vakepa.takeParts ss n y.1 y.2 else if ps.isEmpty = true then wrong l else .ok (ps, l) := by
  rw [Vakepa.takeParts]
  split
  · unfold G1
    split
    · rfl
    · rw [bind_assoc]
      refine bind_congr _ fun x => ?_
      split
      · rfl
      · rw [bind_assoc]
        refine bind_congr _ fun r => ?_
        rw [bind_assoc]
        refine bind_congr _ fun k => ?_
        rw [bind_assoc]
        refine bind_congr _ fun r => ?_
        rw [bind_assoc]
        refine bind_congr _ fun b => ?_
        rfl
  · rfl
theorem any_contains {l : List Bytes} {b : Bytes} : l.contains b = l.any fun x => x == b := by
  rw [Bool.eq_iff_iff, List.contains_iff_mem, List.any_eq_true]
  exact ⟨fun h => ⟨b, h, beq_self_eq_true b⟩, fun ⟨x, h, e⟩ => by rw [← eq_of_beq e]; exact h⟩
end Vf

set_option linter.all false
set_option maxHeartbeats 1000000
/-! Entries one by one, and the calls looked up in the end. -/
namespace Vf
open VakepBase
open Vakepa (Raw Piece RawPart Stmt Part solve solveParts takeStarts takeParts)
def takeStartsG (names : List Bytes) : Nat → List Nat → Toks → Except Fault (List Nat × Toks)
  | 0, _, l => wrong l
  | n + 1, es, l => (E1 names es l).bind fun y => if next (.sign 44) y.2 = true then takeStartsG names n y.1 (y.2.drop 1) else (takeSign 59 y.2).map fun m => (y.1, m)
def fin_ (y : List Nat × Toks) : Except Fault (List Nat) := if next .last y.2 = true then .ok y.1 else wrong y.2
theorem starts_G (names : List Bytes) : ∀ (n : Nat) (es : List Nat) (l : Toks), takeStarts names n es l = (takeStartsG names n es l).bind fin_
  | 0, _, _ => rfl
  | n + 1, es, l => by
    rw [starts_one, takeStartsG, bind_assoc]
    refine bind_congr _ fun y => ?_
    unfold eTail
    split
    · rw [starts_G]
    · rw [bind_map] <;> rfl
/-- a call of no part -/
def lostName (names : List Bytes) (c : PName) : Bool := !names.any fun x => x == c.name
theorem findIdx_none {names : List Bytes} {b : Bytes} : (names.findIdx? fun y => y == b) = none ↔ (names.any fun x => x == b) = false := by
  rw [List.findIdx?_eq_none_iff]
  constructor
  · intro h
    rw [← Bool.not_eq_true, List.any_eq_true]
    rintro ⟨x, hx, e⟩
    rw [h x hx] at e
    cases e
  · intro h x hx
    cases e : x == b with
    | false => rfl
    | true =>
      have := (List.any_eq_true (p := fun y => y == b)).mpr ⟨x, hx, e⟩
      rw [h] at this
      cases this
theorem solve_bad (names : List Bytes) : ∀ x : Raw, ((callees x).find? (lostName names) = none → ∃ s, solve names x = .ok s) ∧ ∀ c, (callees x).find? (lostName names) = some c → solve names x = .error ⟨9, c.place⟩
  | .done => ⟨fun _ => ⟨_, rfl⟩, fun c h => nomatch h⟩
  | .say k r => by
    obtain ⟨h1, h2⟩ := solve_bad names r
    refine ⟨fun h => ?_, fun c h => ?_⟩
    · obtain ⟨s, e⟩ := h1 h
      exact ⟨.say k s, by rw [solve, e] <;> rfl⟩
    · rw [solve, h2 c h] <;> rfl
  | .make ps r => by
    obtain ⟨h1, h2⟩ := solve_bad names r
    refine ⟨fun h => ?_, fun c h => ?_⟩
    · obtain ⟨s, e⟩ := h1 h
      exact ⟨.make ps s, by rw [solve, e] <;> rfl⟩
    · rw [solve, h2 c h] <;> rfl
  | .call p r => by
    obtain ⟨h1, h2⟩ := solve_bad names r
    cases e : names.findIdx? fun y => y == p.name with
    | none =>
      have hl : lostName names p = true := by
        unfold lostName
        rw [findIdx_none.mp e] <;> rfl
      refine ⟨fun h => ?_, fun c h => ?_⟩
      · rw [show callees (.call p r) = p :: callees r from rfl, List.find?_cons, hl] at h
        cases h
      · rw [show callees (.call p r) = p :: callees r from rfl, List.find?_cons, hl] at h
        cases h
        rw [solve, e]
    | some k =>
      have hl : lostName names p = false := by
        cases q : lostName names p with
        | false => rfl
        | true =>
          unfold lostName at q
          have : (names.any fun x => x == p.name) = false := by
            cases z : names.any fun x => x == p.name with
            | false => rfl
            | true => rw [z] at q; cases q
          rw [findIdx_none.mpr this] at e
          cases e
      refine ⟨fun h => ?_, fun c h => ?_⟩
      · rw [show callees (.call p r) = p :: callees r from rfl, List.find?_cons, hl] at h
        obtain ⟨s, es⟩ := h1 h
        exact ⟨.call k s, by rw [solve, e, es] <;> rfl⟩
      · rw [show callees (.call p r) = p :: callees r from rfl, List.find?_cons, hl] at h
        rw [solve, e]
        dsimp only
        rw [h2 c h] <;> rfl
  | .when_ x v b r => by
    obtain ⟨h1, h2⟩ := solve_bad names r
    obtain ⟨g1, g2⟩ := solve_bad names b
    refine ⟨fun h => ?_, fun c h => ?_⟩
    · rw [show callees (.when_ x v b r) = callees b ++ callees r from rfl, List.find?_append] at h
      cases q : (callees b).find? (lostName names) with
      | some c => rw [q] at h; cases h
      | none =>
        rw [q] at h
        obtain ⟨s1, e1⟩ := g1 q
        obtain ⟨s2, e2⟩ := h1 h
        exact ⟨.when_ x v s1 s2, by rw [solve, e1, e2] <;> rfl⟩
    · rw [show callees (.when_ x v b r) = callees b ++ callees r from rfl, List.find?_append] at h
      cases q : (callees b).find? (lostName names) with
      | some c' =>
        rw [q] at h
        cases h
        rw [solve, g2 c q] <;> rfl
      | none =>
        rw [q] at h
        obtain ⟨s1, e1⟩ := g1 q
        rw [solve, e1]
        show (solve names r).map _ = _
        rw [h2 c h] <;> rfl
/-- all names that are called, part by part -/
def allCallees (ps : List RawPart) : List PName := ps.flatMap fun p => callees p.body
theorem parts_bad (names : List Bytes) : ∀ ps : List RawPart, ((allCallees ps).find? (lostName names) = none → ∃ l, solveParts names ps = .ok l) ∧ ∀ c, (allCallees ps).find? (lostName names) = some c → solveParts names ps = .error ⟨9, c.place⟩
  | [] => ⟨fun _ => ⟨[], rfl⟩, fun c h => nomatch h⟩
  | p :: r => by
    obtain ⟨h1, h2⟩ := parts_bad names r
    obtain ⟨g1, g2⟩ := solve_bad names p.body
    have e0 : allCallees (p :: r) = callees p.body ++ allCallees r := rfl
    refine ⟨fun h => ?_, fun c h => ?_⟩
    · rw [e0, List.find?_append] at h
      cases q : (callees p.body).find? (lostName names) with
      | some c => rw [q] at h; cases h
      | none =>
        rw [q] at h
        obtain ⟨s1, e1⟩ := g1 q
        obtain ⟨s2, e2⟩ := h1 h
        exact ⟨_, by rw [solveParts, e1, e2] <;> rfl⟩
    · rw [e0, List.find?_append] at h
      cases q : (callees p.body).find? (lostName names) with
      | some c' =>
        rw [q] at h
        cases h
        rw [solveParts, g2 c q] <;> rfl
      | none =>
        rw [q] at h
        obtain ⟨s1, e1⟩ := g1 q
        rw [solveParts, e1]
        show (solveParts names r).map _ = _
        rw [h2 c h] <;> rfl
/-- the name of a number -/
def nm (names : List Bytes) (k : Nat) : Bytes := (names[k]?).getD []
theorem find_nodup {names : List Bytes} (hn : names.Nodup) {k : Nat} {b : Bytes} (h : names[k]? = some b) : (names.findIdx? fun y => y == b) = some k := by
  obtain ⟨hk, e⟩ := List.getElem?_eq_some_iff.mp h
  rw [List.findIdx?_eq_some_iff_getElem]
  refine ⟨hk, by rw [e]; exact beq_self_eq_true b, fun j hj => ?_⟩
  have hjl : j < names.length := Nat.lt_trans hj hk
  intro z
  have : names[j] = names[k] := by rw [e]; exact eq_of_beq z
  have := (List.getElem_inj hn).mp this
  omega
theorem ents_any {names : List Bytes} (hn : names.Nodup) {es : List Nat} (hes : ∀ k ∈ es, k < names.length) (b : Bytes) {k : Nat} (hk : (names.findIdx? fun y => y == b) = some k) : ((es.map (nm names)).any fun x => x == b) = es.contains k := by
  obtain ⟨h1, h2, _⟩ := List.findIdx?_eq_some_iff_getElem.mp hk
  have hkb : names[k]? = some b := by rw [List.getElem?_eq_getElem h1, eq_of_beq h2]
  rw [Bool.eq_iff_iff, List.any_map, List.any_eq_true, List.contains_iff_mem]
  constructor
  · rintro ⟨j, hj, e⟩
    have e' : nm names j = b := eq_of_beq e
    have hjl := hes j hj
    have : names[j]? = some b := by
      rw [List.getElem?_eq_getElem hjl, ← e']
      unfold nm
      rw [List.getElem?_eq_getElem hjl] <;> rfl
    have := find_nodup hn this
    rw [hk] at this
    cases this
    exact hj
  · intro hk'
    refine ⟨k, hk', ?_⟩
    show (nm names k == b) = true
    unfold nm
    rw [hkb]
    exact beq_self_eq_true b
theorem ents_unknown {names : List Bytes} {es : List Nat} (hes : ∀ k ∈ es, k < names.length) (b : Bytes) (hk : (names.findIdx? fun y => y == b) = none) : ((es.map (nm names)).any fun x => x == b) = false := by
  rw [← Bool.not_eq_true, List.any_map, List.any_eq_true]
  rintro ⟨j, hj, e⟩
  have e' : nm names j = b := eq_of_beq e
  have hjl := hes j hj
  have h1 := findIdx_none.mp hk
  have : (names.any fun x => x == b) = true := by
    refine List.any_eq_true.mpr ⟨names[j], List.getElem_mem hjl, ?_⟩
    unfold nm at e'
    rw [List.getElem?_eq_getElem hjl] at e'
    rw [show names[j] = b from e']
    exact beq_self_eq_true b
  rw [h1] at this
  cases this
end Vf

set_option linter.all false
set_option maxHeartbeats 2000000
/-! What holds of every program that is read. -/
namespace Vf
open VakepBase
open Vakepa (Raw Piece RawPart Stmt Part Prog takeNat takePieces takeValues takeStmts takeSets takeParts takeStarts solve solveParts pieceOf SIZE)
abbrev Setg := Vakepa.Setting
/-- one text is an end of the other -/
abbrev Suf (a b : Toks) : Prop := a <:+ b
def TokOk (l : Toks) : Prop := ∀ t ∈ l, ∀ b, t.tok = .name b → b.length ≤ 16
theorem TokOk.suf {a b : Toks} (h : TokOk b) (s : Suf a b) : TokOk a := fun t ht => h t (s.subset ht)
theorem suf_drop (l : Toks) : Suf (l.drop 1) l := List.drop_suffix 1 l
theorem next_pos {t : Tok} {l : Toks} (h : next t l = true) : 1 ≤ l.length := by
  cases l with
  | nil => cases h
  | cons _ _ => exact Nat.le_add_left _ _
theorem taken_ok {t : Tok} {l l' : Toks} (h : taken t l = .ok l') : Suf l' l ∧ l'.length + 1 ≤ l.length := by
  unfold taken at h
  by_cases e : next t l = true
  · rw [if_pos e] at h
    cases h
    have := next_pos e
    refine ⟨suf_drop _, ?_⟩
    rw [List.length_drop]
    omega
  · rw [if_neg e] at h
    cases h
theorem name_take {l l' : Toks} {x : PName} (h : takeName l = .ok (x, l')) (k : TokOk l) : Suf l' l ∧ l'.length + 1 ≤ l.length ∧ x.name.length ≤ 16 := by
  unfold takeName at h
  split at h
  · rename_i p b r
    split at h
    · cases h
    · cases h
      exact ⟨⟨[⟨p, .name b⟩], rfl⟩, Nat.le_refl _, k ⟨p, .name b⟩ (List.mem_cons_self ..) b rfl⟩
  · cases h
theorem nat_take {l l' : Toks} {n : Nat} (h : takeNat SIZE l = .ok (n, l')) : Suf l' l ∧ l'.length + 1 ≤ l.length ∧ 1 ≤ n ∧ n ≤ 99 := by
  unfold takeNat at h
  split at h
  · split at h
    · cases h
    · rename_i hno
      cases h
      have : ¬ (n < 1 ∨ 99 < n) := hno
      exact ⟨suf_drop (_ :: _), Nat.le_refl _, by omega, by omega⟩
  · cases h
theorem bind_ok {a b : Type} {x : Except Fault a} {f : a → Except Fault b} {y : b} (h : x.bind f = .ok y) : ∃ z, x = .ok z ∧ f z = .ok y := by
  cases x with
  | error e => cases h
  | ok z => exact ⟨z, rfl, h⟩
theorem map_ok {a b : Type} {x : Except Fault a} {f : a → b} {y : b} (h : x.map f = .ok y) : ∃ z, x = .ok z ∧ f z = y := by
  cases x with
  | error e => cases h
  | ok z =>
    cases h
    exact ⟨z, rfl, rfl⟩
/-- a piece that was read -/
def PieceOk (ss : Sets) : Piece → Prop
  | .set k => k < ss.length
  | .word b => b.length ≤ 16 ∧ ∀ s ∈ ss, s.name ≠ b
theorem pieceOf_ok (ss : Sets) {b : Bytes} (h : b.length ≤ 16) : PieceOk ss (pieceOf ss b) := by
  unfold pieceOf
  cases q : ss.findIdx? fun s => s.name == b with
  | some k =>
    obtain ⟨h1, _⟩ := List.findIdx?_eq_some_iff_getElem.mp q
    exact h1
  | none =>
    refine ⟨h, fun s hs e => ?_⟩
    have := List.findIdx?_eq_none_iff.mp q s hs
    rw [e] at this
    simp at this
theorem pieces_ok (ss : Sets) : ∀ (n : Nat) (ps : List Piece) (l : Toks) (ps' : List Piece) (l' : Toks), takePieces ss n ps l = .ok (ps', l') → TokOk l → ps.length ≤ 3 → (∀ q ∈ ps, PieceOk ss q) →
    Suf l' l ∧ ps'.length ≤ 3 ∧ (∀ q ∈ ps', PieceOk ss q) ∧ 2 * ps'.length + l'.length ≤ 2 * ps.length + l.length
  | 0, _, _, _, _, h, _, _, _ => by cases h
  | n + 1, ps, l, ps', l', h, k, k3, kp => by
    rw [pieces_one] at h
    obtain ⟨⟨qs, m⟩, h1, h2⟩ := bind_ok h
    unfold P1 at h1
    obtain ⟨⟨x, r⟩, h3, h4⟩ := bind_ok h1
    obtain ⟨s1, s2, s3⟩ := name_take h3 k
    dsimp only at h4
    split at h4
    · cases h4
    · rename_i hno
      have hno' : ¬ 3 ≤ ps.length := hno
      cases h4
      have q3 : (ps ++ [pieceOf ss x.name]).length ≤ 3 := by
        rw [List.length_append]
        show ps.length + 1 ≤ 3
        omega
      have qp : ∀ q ∈ ps ++ [pieceOf ss x.name], PieceOk ss q := fun q hq => by
        rcases List.mem_append.mp hq with hq | hq
        · exact kp q hq
        · rw [List.mem_singleton.mp hq]
          exact pieceOf_ok ss s3
      unfold pTail at h2
      dsimp only at h2
      have ql : (ps ++ [pieceOf ss x.name]).length = ps.length + 1 := by rw [List.length_append] <;> rfl
      split at h2
      · rename_i hn
        have hr : 1 ≤ m.length := by
          cases m with
          | nil => cases hn
          | cons _ _ => exact Nat.le_add_left _ _
        obtain ⟨r1, r2, r3, r4⟩ := pieces_ok ss n _ _ _ _ h2 ((k.suf s1).suf (suf_drop _)) q3 qp
        refine ⟨r1.trans ((suf_drop _).trans s1), r2, r3, ?_⟩
        rw [ql, List.length_drop] at r4
        omega
      · obtain ⟨z, h5, h6⟩ := map_ok h2
        obtain ⟨r1, r2⟩ := taken_ok h5
        cases h6
        refine ⟨r1.trans s1, q3, qp, ?_⟩
        rw [ql]
        omega
def rcost : Raw → Nat
  | .done => 1
  | .say _ r => 3 + rcost r
  | .call _ r => 3 + rcost r
  | .make ps r => 1 + 2 * ps.length + rcost r
  | .when_ _ _ b r => 5 + rcost b + rcost r
/-- statements that were read, standing in d whens -/
def RGood (ss : Sets) : Nat → Raw → Prop
  | _, .done => True
  | d, .say k r => k ≤ 99 ∧ RGood ss d r
  | d, .call p r => p.name.length ≤ 16 ∧ RGood ss d r
  | d, .make ps r => ps.length ≤ 3 ∧ (∀ q ∈ ps, PieceOk ss q) ∧ RGood ss d r
  | d, .when_ x v b r => (∃ S : Setg, ss[x]? = some S ∧ v < S.values.length) ∧ d < 3 ∧ RGood ss (d + 1) b ∧ RGood ss d r
theorem RGood.app {ss : Sets} : ∀ {d : Nat} {x y : Raw}, RGood ss d x → RGood ss d y → RGood ss d (rapp x y)
  | _, .done, _, _, h => h
  | _, .say _ _, _, ⟨a, b⟩, h => ⟨a, b.app h⟩
  | _, .call _ _, _, ⟨a, b⟩, h => ⟨a, b.app h⟩
  | _, .make _ _, _, ⟨a, b, c⟩, h => ⟨a, b, c.app h⟩
  | _, .when_ _ _ _ _, _, ⟨a, b, c, e⟩, h => ⟨a, b, c, e.app h⟩
theorem rcost_app : ∀ x y : Raw, rcost (rapp x y) + 1 = rcost x + rcost y
  | .done, _ => by simp only [rapp, rcost]; omega
  | .say k t, y => by have := rcost_app t y; simp only [rapp, rcost]; omega
  | .call p t, y => by have := rcost_app t y; simp only [rapp, rcost]; omega
  | .make ps t, y => by have := rcost_app t y; simp only [rapp, rcost]; omega
  | .when_ x v b t, y => by have := rcost_app t y; simp only [rapp, rcost]; omega
theorem stmts_ok (ss : Sets) : ∀ (n d : Nat) (l : Toks) (x : Raw) (l' : Toks), takeStmts ss n d l = .ok (x, l') → TokOk l → Suf l' l ∧ RGood ss d x ∧ rcost x + l'.length ≤ l.length
  | 0, _, _, _, _, h, _ => by cases h
  | n + 1, d, l, x, l', h, k => by
    rw [stmts_one] at h
    split at h
    · rename_i hn
      cases h
      have hr : 1 ≤ l.length := by
        cases l with
        | nil => cases hn
        | cons _ _ => exact Nat.le_add_left _ _
      refine ⟨suf_drop _, trivial, ?_⟩
      show 1 + _ ≤ _
      rw [List.length_drop]
      omega
    · obtain ⟨⟨y, m⟩, h1, h2⟩ := bind_ok h
      obtain ⟨⟨z, m'⟩, h3, h4⟩ := map_ok h2
      cases h4
      have one_ok : Suf m l ∧ RGood ss d y ∧ rcost y + m.length ≤ l.length + 1 := by
        have hd : ∀ {s : Toks → Bool}, True := fun {_} => trivial
        unfold one at h1
        split at h1
        · rename_i hw
          have hr : 1 ≤ l.length := by
            cases l with
            | nil => cases hw
            | cons _ _ => exact Nat.le_add_left _ _
          unfold oneSay at h1
          obtain ⟨⟨a, r⟩, g1, g2⟩ := bind_ok h1
          obtain ⟨t1, t2, t3, t4⟩ := nat_take g1
          obtain ⟨r2, g3, g4⟩ := map_ok g2
          obtain ⟨u1, u2⟩ := taken_ok g3
          cases g4
          rw [List.length_drop] at t2
          refine ⟨u1.trans (t1.trans (suf_drop _)), ⟨t4, trivial⟩, ?_⟩
          dsimp only at u2
          simp only [rcost]
          omega
        · split at h1
          · rename_i hw
            have hr : 1 ≤ l.length := by
              cases l with
              | nil => cases hw
              | cons _ _ => exact Nat.le_add_left _ _
            unfold oneCall at h1
            obtain ⟨⟨a, r⟩, g1, g2⟩ := bind_ok h1
            obtain ⟨t1, t2, t3⟩ := name_take g1 (k.suf (suf_drop _))
            obtain ⟨r2, g3, g4⟩ := map_ok g2
            obtain ⟨u1, u2⟩ := taken_ok g3
            cases g4
            rw [List.length_drop] at t2
            refine ⟨u1.trans (t1.trans (suf_drop _)), ⟨t3, trivial⟩, ?_⟩
            dsimp only at u2
            simp only [rcost]
            omega
          · split at h1
            · rename_i hw
              have hr : 1 ≤ l.length := by
                cases l with
                | nil => cases hw
                | cons _ _ => exact Nat.le_add_left _ _
              unfold oneMake at h1
              obtain ⟨⟨a, r⟩, g1, g2⟩ := map_ok h1
              obtain ⟨t1, t2, t3, t4⟩ := pieces_ok ss _ _ _ _ _ g1 (k.suf (suf_drop _)) (by decide) (fun q hq => nomatch hq)
              cases g2
              rw [List.length_drop] at t4
              refine ⟨t1.trans (suf_drop _), ⟨t2, t3, trivial⟩, ?_⟩
              simp only [rcost]
              simp only [List.length_nil] at t4
              omega
            · unfold oneWhen at h1
              obtain ⟨r, g1, g2⟩ := bind_ok h1
              obtain ⟨t1, t2⟩ := taken_ok g1
              split at g2
              · cases g2
              · rename_i hdp
                have hdp' : ¬ 3 ≤ d := hdp
                obtain ⟨⟨nx, r2⟩, g3, g4⟩ := bind_ok g2
                obtain ⟨u1, u2, u3⟩ := name_take g3 (k.suf t1)
                dsimp only at g4
                cases q : ss.findIdx? fun s => s.name == nx.name with
                | none => rw [q] at g4; cases g4
                | some kx =>
                  rw [q] at g4
                  obtain ⟨r3, g5, g6⟩ := bind_ok g4
                  obtain ⟨v1, v2⟩ := taken_ok g5
                  obtain ⟨⟨nv, r4⟩, g7, g8⟩ := bind_ok g6
                  obtain ⟨w1, w2, w3⟩ := name_take g7 ((k.suf t1).suf (v1.trans u1))
                  dsimp only at g8
                  cases q2 : ((ss[kx]?).map fun s => s.values).bind fun vs => vs.findIdx? fun y => y == nv.name with
                  | none => rw [q2] at g8; cases g8
                  | some j =>
                    rw [q2] at g8
                    obtain ⟨r5, g9, g10⟩ := bind_ok g8
                    obtain ⟨x1, x2⟩ := taken_ok g9
                    obtain ⟨⟨bd, r6⟩, g11, g12⟩ := map_ok g10
                    cases g12
                    obtain ⟨y1, y2, y3⟩ := stmts_ok ss n (d + 1) _ _ _ g11 (((((k.suf t1).suf u1).suf v1).suf w1).suf x1)
                    refine ⟨y1.trans (x1.trans (w1.trans (v1.trans (u1.trans t1)))), ⟨?_, by omega, y2, trivial⟩, ?_⟩
                    · cases e : ss[kx]? with
                      | none => rw [e] at q2; cases q2
                      | some S =>
                        rw [e] at q2
                        obtain ⟨hj, _⟩ := List.findIdx?_eq_some_iff_getElem.mp (show S.values.findIdx? (fun y => y == nv.name) = some j from q2)
                        exact ⟨S, rfl, hj⟩
                    · have := u2; have := v2; have := w2; have := x2; have := y3; dsimp only at *
                      simp only [rcost]
                      omega
      obtain ⟨o1, o2, o3⟩ := one_ok
      obtain ⟨i1, i2, i3⟩ := stmts_ok ss n d _ _ _ h3 (k.suf o1)
      refine ⟨i1.trans o1, o2.app i2, ?_⟩
      have := rcost_app y z
      have i3' : rcost z + m'.length ≤ m.length := i3
      show rcost (rapp y z) + m'.length ≤ l.length
      omega
theorem values_ok : ∀ (n : Nat) (vs : List Bytes) (l : Toks) (vs' : List Bytes) (l' : Toks), takeValues n vs l = .ok (vs', l') → TokOk l → vs.length ≤ 4 → vs.Nodup → (∀ v ∈ vs, v.length ≤ 16) →
    Suf l' l ∧ 1 ≤ vs'.length ∧ vs'.length ≤ 4 ∧ vs'.Nodup ∧ ∀ v ∈ vs', v.length ≤ 16
  | 0, _, _, _, _, h, _, _, _, _ => by cases h
  | n + 1, vs, l, vs', l', h, k, k4, kn, kv => by
    rw [values_one] at h
    obtain ⟨⟨qs, m⟩, h1, h2⟩ := bind_ok h
    unfold W1 at h1
    obtain ⟨⟨x, r⟩, h3, h4⟩ := bind_ok h1
    obtain ⟨s1, s2, s3⟩ := name_take h3 k
    dsimp only at h4
    split at h4
    · cases h4
    · rename_i hno
      have hno' : ¬ 4 ≤ vs.length := hno
      split at h4
      · cases h4
      · rename_i hnew
        cases h4
        have ql : (vs ++ [x.name]).length = vs.length + 1 := by rw [List.length_append] <;> rfl
        have qn : (vs ++ [x.name]).Nodup := by
          rw [List.nodup_append]
          refine ⟨kn, by simp, fun a ha b hb e => ?_⟩
          rw [List.mem_singleton] at hb
          subst hb
          subst e
          exact hnew (List.contains_iff_mem.mpr ha)
        have qv : ∀ v ∈ vs ++ [x.name], v.length ≤ 16 := fun v hv => by
          rcases List.mem_append.mp hv with hv | hv
          · exact kv v hv
          · rw [List.mem_singleton.mp hv]
            exact s3
        unfold wTail at h2
        dsimp only at h2
        split at h2
        · obtain ⟨r1, r2⟩ := values_ok n _ _ _ _ h2 ((k.suf s1).suf (suf_drop _)) (by omega) qn qv
          exact ⟨r1.trans ((suf_drop _).trans s1), r2⟩
        · obtain ⟨z, h5, h6⟩ := map_ok h2
          obtain ⟨r1, r2⟩ := taken_ok h5
          cases h6
          exact ⟨r1.trans s1, by omega, by omega, qn, qv⟩
/-- a setting that was read -/
def SetOk (s : Setg) : Prop := s.name.length ≤ 16 ∧ 1 ≤ s.values.length ∧ s.values.length ≤ 4 ∧ s.values.Nodup ∧ ∀ v ∈ s.values, v.length ≤ 16
theorem nodup_name {α : Type} {f : α → Bytes} {l : List α} {x : α} (h : (l.map f).Nodup) (hn : (l.any fun p => f p == f x) = false) : ((l ++ [x]).map f).Nodup := by
  rw [List.map_append, List.nodup_append]
  refine ⟨h, by simp, ?_⟩
  intro a ha b hb z
  rw [List.map_cons, List.map_nil, List.mem_singleton] at hb
  subst hb
  subst z
  obtain ⟨p, hp, e⟩ := List.mem_map.mp ha
  have := (List.any_eq_true (p := fun p => f p == f x)).mpr ⟨p, hp, (by rw [e]; exact beq_self_eq_true _ : (f p == f x) = true)⟩
  rw [hn] at this
  cases this
theorem not_any {b : Bool} (h : ¬ b = true) : b = false := by
  cases b with
  | true => exact absurd rfl h
  | false => rfl
theorem sets_ok : ∀ (n : Nat) (ss : Sets) (l : Toks) (ss' : Sets) (l' : Toks), takeSets n ss l = .ok (ss', l') → TokOk l → ss.length ≤ 3 → (ss.map fun s => s.name).Nodup → (∀ s ∈ ss, SetOk s) →
    Suf l' l ∧ ss'.length ≤ 3 ∧ (ss'.map fun s => s.name).Nodup ∧ ∀ s ∈ ss', SetOk s
  | 0, _, _, _, _, h, _, _, _, _ => by cases h
  | n + 1, ss, l, ss', l', h, k, k3, kn, kg => by
    rw [sets_one] at h
    split at h
    · obtain ⟨⟨qs, m⟩, h1, h2⟩ := bind_ok h
      unfold S1 at h1
      split at h1
      · cases h1
      · rename_i hno
        have hno' : ¬ 3 ≤ ss.length := hno
        obtain ⟨⟨x, r⟩, h3, h4⟩ := bind_ok h1
        obtain ⟨s1, s2, s3⟩ := name_take h3 (k.suf (suf_drop _))
        dsimp only at h4
        split at h4
        · cases h4
        · rename_i hnew
          obtain ⟨r2, h5, h6⟩ := bind_ok h4
          obtain ⟨t1, t2⟩ := taken_ok h5
          obtain ⟨⟨vs, r3⟩, h7, h8⟩ := bind_ok h6
          have k2 := ((k.suf (suf_drop _)).suf s1).suf t1
          obtain ⟨u1, u2⟩ := values_ok _ _ _ _ _ h7 k2 (by decide) List.nodup_nil (fun v hv => nomatch hv)
          cases h8
          obtain ⟨w1, w2⟩ := sets_ok n _ _ _ _ h2 (k2.suf u1) (by rw [List.length_append]; show ss.length + 1 ≤ 3; omega) (nodup_name (f := fun s : Setg => s.name) (x := ⟨x.name, vs⟩) kn (not_any hnew)) (fun s hs => by
            rcases List.mem_append.mp hs with hs | hs
            · exact kg s hs
            · rw [List.mem_singleton.mp hs]
              exact ⟨s3, u2⟩)
          exact ⟨w1.trans (u1.trans (t1.trans (s1.trans (suf_drop _)))), w2⟩
    · cases h
      exact ⟨List.suffix_refl _, k3, kn, kg⟩
/-- a part that was read; c: how many tokens there are -/
def PartOk (ss : Sets) (c : Nat) (x : RawPart) : Prop := x.name.length ≤ 16 ∧ 1 ≤ x.size ∧ x.size ≤ 99 ∧ RGood ss 0 x.body ∧ rcost x.body ≤ c
theorem parts_ok (ss : Sets) (c : Nat) : ∀ (n : Nat) (ps : List RawPart) (l : Toks) (ps' : List RawPart) (l' : Toks), takeParts ss n ps l = .ok (ps', l') → TokOk l → l.length ≤ c → ps.length ≤ 10 → (ps.map fun s => s.name).Nodup → (∀ s ∈ ps, PartOk ss c s) →
    Suf l' l ∧ 1 ≤ ps'.length ∧ ps'.length ≤ 10 ∧ (ps'.map fun s => s.name).Nodup ∧ ∀ s ∈ ps', PartOk ss c s
  | 0, _, _, _, _, h, _, _, _, _, _ => by cases h
  | n + 1, ps, l, ps', l', h, k, kc, k10, kn, kg => by
    rw [parts_one] at h
    split at h
    · obtain ⟨⟨qs, m⟩, h1, h2⟩ := bind_ok h
      unfold G1 at h1
      split at h1
      · cases h1
      · rename_i hno
        have hno' : ¬ 10 ≤ ps.length := hno
        obtain ⟨⟨x, r⟩, h3, h4⟩ := bind_ok h1
        obtain ⟨s1, s2, s3⟩ := name_take h3 (k.suf (suf_drop _))
        dsimp only at h4
        split at h4
        · cases h4
        · rename_i hnew
          obtain ⟨r2, h5, h6⟩ := bind_ok h4
          obtain ⟨t1, t2⟩ := taken_ok h5
          obtain ⟨⟨nn, r3⟩, h7, h8⟩ := bind_ok h6
          obtain ⟨u1, u2, u3, u4⟩ := nat_take h7
          obtain ⟨r4, h9, h10⟩ := bind_ok h8
          obtain ⟨v1, v2⟩ := taken_ok h9
          obtain ⟨⟨bd, r5⟩, h11, h12⟩ := bind_ok h10
          have sf : Suf r4 l := v1.trans (u1.trans (t1.trans (s1.trans (suf_drop _))))
          obtain ⟨w1, w2, w3⟩ := stmts_ok ss _ 0 _ _ _ h11 (k.suf sf)
          cases h12
          have hlen := sf.length_le
          obtain ⟨y1, y2⟩ := parts_ok ss c n _ _ _ _ h2 ((k.suf sf).suf w1) (by have : r5.length ≤ r4.length := w1.length_le; show r5.length ≤ c; omega) (by rw [List.length_append]; show ps.length + 1 ≤ 10; omega)
            (nodup_name (f := fun s : RawPart => s.name) (x := ⟨x.name, nn, bd⟩) kn (not_any fun z => hnew (.inl z))) (fun s hs => by
            rcases List.mem_append.mp hs with hs | hs
            · exact kg s hs
            · rw [List.mem_singleton.mp hs]
              exact ⟨s3, u3, u4, w2, by show rcost bd ≤ c; omega⟩)
          exact ⟨y1.trans (w1.trans sf), y2⟩
    · split at h
      · cases h
      · rename_i hemp
        cases h
        refine ⟨List.suffix_refl _, ?_, k10, kn, kg⟩
        cases ps with
        | nil => exact absurd rfl hemp
        | cons _ _ => exact Nat.le_add_left _ _
theorem starts_ok (names : List Bytes) : ∀ (n : Nat) (es : List Nat) (l : Toks) (es' : List Nat), takeStarts names n es l = .ok es' → es.length ≤ 4 → es.Nodup → (∀ k ∈ es, k < names.length) → 1 ≤ es'.length ∧ es'.length ≤ 4 ∧ es'.Nodup ∧ ∀ k ∈ es', k < names.length
  | 0, _, _, _, h, _, _, _ => by cases h
  | n + 1, es, l, es', h, k4, kn, kg => by
    rw [starts_one] at h
    obtain ⟨⟨qs, m⟩, h1, h2⟩ := bind_ok h
    unfold E1 at h1
    obtain ⟨⟨x, r⟩, h3, h4⟩ := bind_ok h1
    dsimp only at h4
    split at h4
    · cases h4
    · rename_i hno
      have hno' : ¬ 4 ≤ es.length := hno
      cases q : names.findIdx? fun y => y == x.name with
      | none => rw [q] at h4; cases h4
      | some k =>
        rw [q] at h4
        dsimp only at h4
        split at h4
        · cases h4
        · rename_i hnew
          cases h4
          obtain ⟨hk, _⟩ := List.findIdx?_eq_some_iff_getElem.mp q
          have ql : (es ++ [k]).length = es.length + 1 := by rw [List.length_append] <;> rfl
          have qn : (es ++ [k]).Nodup := by
            rw [List.nodup_append]
            refine ⟨kn, by simp, fun a ha b hb e => ?_⟩
            rw [List.mem_singleton] at hb
            subst hb
            subst e
            exact hnew (List.contains_iff_mem.mpr ha)
          have qg : ∀ j ∈ es ++ [k], j < names.length := fun j hj => by
            rcases List.mem_append.mp hj with hj | hj
            · exact kg j hj
            · rw [List.mem_singleton.mp hj]
              exact hk
          unfold eTail at h2
          dsimp only at h2
          split at h2
          · exact starts_ok names n _ _ _ h2 (by omega) qn qg
          · obtain ⟨z, h5, h6⟩ := bind_ok h2
            split at h6
            · cases h6
              exact ⟨by omega, by omega, qn, qg⟩
            · cases h6
def scost : Stmt → Nat
  | .done => 1
  | .say _ r => 3 + scost r
  | .call _ r => 3 + scost r
  | .make ps r => 1 + 2 * ps.length + scost r
  | .when_ _ _ b r => 5 + scost b + scost r
/-- statements of a program, standing in d whens; n: how many parts there are -/
def SGood (ss : Sets) (n : Nat) : Nat → Stmt → Prop
  | _, .done => True
  | d, .say k r => k ≤ 99 ∧ SGood ss n d r
  | d, .call p r => p < n ∧ SGood ss n d r
  | d, .make ps r => ps.length ≤ 3 ∧ (∀ q ∈ ps, PieceOk ss q) ∧ SGood ss n d r
  | d, .when_ x v b r => (∃ S : Setg, ss[x]? = some S ∧ v < S.values.length) ∧ d < 3 ∧ SGood ss n (d + 1) b ∧ SGood ss n d r
theorem solve_good {ss : Sets} {names : List Bytes} : ∀ {d : Nat} {x : Raw} {s : Stmt}, RGood ss d x → solve names x = .ok s → SGood ss names.length d s ∧ scost s = rcost x
  | _, .done, s, _, h => by
    cases h
    exact ⟨trivial, rfl⟩
  | _, .say k r, s, ⟨a, g⟩, h => by
    rw [solve] at h
    obtain ⟨z, h1, h2⟩ := map_ok h
    obtain ⟨g1, g2⟩ := solve_good g h1
    cases h2
    exact ⟨⟨a, g1⟩, by simp only [scost, rcost, g2]⟩
  | _, .call c r, s, ⟨a, g⟩, h => by
    rw [solve] at h
    cases q : names.findIdx? fun y => y == c.name with
    | none => rw [q] at h; cases h
    | some k =>
      rw [q] at h
      obtain ⟨z, h1, h2⟩ := map_ok h
      obtain ⟨g1, g2⟩ := solve_good g h1
      cases h2
      obtain ⟨hk, _⟩ := List.findIdx?_eq_some_iff_getElem.mp q
      exact ⟨⟨hk, g1⟩, by simp only [scost, rcost, g2]⟩
  | _, .make ps r, s, ⟨a, b, g⟩, h => by
    rw [solve] at h
    obtain ⟨z, h1, h2⟩ := map_ok h
    obtain ⟨g1, g2⟩ := solve_good g h1
    cases h2
    exact ⟨⟨a, b, g1⟩, by simp only [scost, rcost, g2]⟩
  | _, .when_ x v b r, s, ⟨a, c, g, k⟩, h => by
    rw [solve] at h
    obtain ⟨y, h1, h2⟩ := bind_ok h
    obtain ⟨z, h3, h4⟩ := map_ok h2
    obtain ⟨g1, g2⟩ := solve_good g h1
    obtain ⟨k1, k2⟩ := solve_good k h3
    cases h4
    exact ⟨⟨a, c, g1, k1⟩, by simp only [scost, rcost, g2, k2]⟩
/-- a program that was read -/
structure Wfp (p : Prog) : Prop where
  s3 : p.sets.length ≤ 3
  sn : (p.sets.map fun s => s.name).Nodup
  sg : ∀ s ∈ p.sets, SetOk s
  p1 : 1 ≤ p.parts.length
  p10 : p.parts.length ≤ 10
  pn : (p.parts.map fun s => s.name).Nodup
  pg : ∀ x ∈ p.parts, x.name.length ≤ 16 ∧ 1 ≤ x.size ∧ x.size ≤ 99 ∧ SGood p.sets p.parts.length 0 x.body ∧ scost x.body ≤ 5000
  e1 : 1 ≤ p.starts.length
  e4 : p.starts.length ≤ 4
  en : p.starts.Nodup
  eg : ∀ k ∈ p.starts, k < p.parts.length
theorem solveParts_ok {ss : Sets} {c : Nat} {names : List Bytes} : ∀ {ps : List RawPart} {l : List Part}, solveParts names ps = .ok l → (∀ s ∈ ps, PartOk ss c s) →
    l.map (fun x => x.name) = ps.map (fun x => x.name) ∧ ∀ x ∈ l, x.name.length ≤ 16 ∧ 1 ≤ x.size ∧ x.size ≤ 99 ∧ SGood ss names.length 0 x.body ∧ scost x.body ≤ c
  | [], l, h, _ => by
    cases h
    exact ⟨rfl, fun x hx => nomatch hx⟩
  | p :: r, l, h, k => by
    rw [solveParts] at h
    obtain ⟨b, h1, h2⟩ := bind_ok h
    obtain ⟨l', h3, h4⟩ := map_ok h2
    cases h4
    obtain ⟨i1, i2⟩ := solveParts_ok h3 fun s hs => k s (List.mem_cons_of_mem _ hs)
    obtain ⟨a1, a2, a3, a4, a5⟩ := k p (List.mem_cons_self ..)
    obtain ⟨g1, g2⟩ := solve_good a4 h1
    refine ⟨by rw [List.map_cons, List.map_cons, i1], fun x hx => ?_⟩
    rcases List.mem_cons.mp hx with rfl | hx
    · exact ⟨a1, a2, a3, g1, by show scost b ≤ c; rw [g2]; exact a5⟩
    · exact i2 x hx
theorem lex_short : ∀ (n a : Nat) (l : Bytes) (ts : Toks), lex n a l = .ok ts → TokOk ts
  | 0, a, l, ts, h => by
    cases h
    intro t ht b e
    rw [List.mem_singleton.mp ht] at e
    cases e
  | n + 1, a, [], ts, h => by
    cases h
    intro t ht b e
    rw [List.mem_singleton.mp ht] at e
    cases e
  | n + 1, a, c :: r, ts, h => by
    rw [lex] at h
    split at h
    · exact lex_short n _ r ts h
    · split at h
      · exact lex_short n _ _ ts h
      · cases q : token (c :: r) with
        | none => rw [q] at h; cases h
        | some x =>
          rw [q] at h
          dsimp only at h
          obtain ⟨us, h1, h2⟩ := map_ok h
          cases h2
          have ih := lex_short n _ _ us h1
          intro t ht b e
          rcases List.mem_cons.mp ht with rfl | ht
          · dsimp only at e
            unfold token at q
            dsimp only at q
            split at q
            · split at q
              · cases q
              · rename_i hlen
                cases q
                cases e
                exact Nat.le_of_not_lt hlen
            · split at q
              · cases q2 : numberOf ((c :: r).takeWhile isDigit) with
                | none => rw [q2] at q; cases q
                | some nn =>
                  rw [q2] at q
                  cases q
                  cases e
              · split at q
                · cases q
                  cases e
                · cases q
          · exact ih t ht b e
theorem lex_len : ∀ (n a : Nat) (l : Bytes) (ts : Toks), lex n a l = .ok ts → ts.length ≤ n + 1
  | 0, a, l, ts, h => by
    cases h
    exact Nat.le_refl _
  | n + 1, a, [], ts, h => by
    cases h
    exact Nat.le_add_left _ _
  | n + 1, a, c :: r, ts, h => by
    rw [lex] at h
    split at h
    · exact Nat.le_succ_of_le (lex_len n _ r ts h)
    · split at h
      · exact Nat.le_succ_of_le (lex_len n _ _ ts h)
      · cases q : token (c :: r) with
        | none => rw [q] at h; cases h
        | some x =>
          rw [q] at h
          obtain ⟨us, h1, h2⟩ := map_ok h
          cases h2
          exact Nat.succ_le_succ (lex_len n _ _ us h1)
theorem read_wf {b : Bytes} {p : Prog} (h : Vakepa.read b = .ok p) : Wfp p := by
  unfold Vakepa.read at h
  obtain ⟨ts, h1, h2⟩ := bind_ok h
  unfold tokens at h1
  split at h1
  · cases h1
  · rename_i hb
    have hb' : ¬ 4096 < b.length := hb
    have ok := lex_short _ _ _ _ h1
    have len := lex_len _ _ _ _ h1
    obtain ⟨⟨ss, l1⟩, h3, h4⟩ := bind_ok h2
    obtain ⟨s1, s2, s3, s4⟩ := sets_ok _ _ _ _ _ h3 ok (by decide) List.nodup_nil (fun s hs => nomatch hs)
    dsimp only at h4
    obtain ⟨⟨ps, l2⟩, h5, h6⟩ := bind_ok h4
    obtain ⟨p1, p2, p3, p4, p5⟩ := parts_ok ss 5000 _ _ _ _ _ h5 (ok.suf s1) (by have := s1.length_le; omega) (by decide) List.nodup_nil (fun s hs => nomatch hs)
    dsimp only at h6
    obtain ⟨l3, h7, h8⟩ := bind_ok h6
    obtain ⟨es, h9, h10⟩ := bind_ok h8
    obtain ⟨e1, e2, e3, e4⟩ := starts_ok _ _ _ _ _ h9 (by decide) List.nodup_nil (fun s hs => nomatch hs)
    obtain ⟨l, h11, h12⟩ := map_ok h10
    cases h12
    obtain ⟨q1, q2⟩ := solveParts_ok h11 p5
    have hl : l.length = ps.length := by
      have := congrArg List.length q1
      rw [List.length_map, List.length_map] at this
      exact this
    rw [List.length_map] at q2 e4
    exact ⟨s2, s3, s4, by show 1 ≤ l.length; omega, by show l.length ≤ 10; omega, by show (l.map _).Nodup; rw [q1]; exact p4, by show ∀ x ∈ l, _ ∧ _ ∧ _ ∧ SGood ss l.length 0 x.body ∧ _; rw [hl]; exact q2, e1, e2, e3, by show ∀ k ∈ es, k < l.length; rw [hl]; exact e4⟩
end Vf

set_option linter.all false
set_option maxHeartbeats 2000000
/-! Runs: a recursion that does what the specification's steps do. -/
namespace Vf
open VakepBase
open Vakepa (Prog Stmt Run Values bodyOf mark step1 over goBy partNamed madeName CALLS LONG)
/-- what the recursion carries: parts entered, statements done, the ending -/
structure Big where
  ent : List Nat
  n : Nat
  fin : Nat
/-- a statement is counted, if the run goes on -/
def gate (s : Big) (k : Big → Big) : Big := if s.fin ≠ 0 then s else if 100 ≤ s.n then { s with fin := 2 } else k { s with n := s.n + 1 }
/-- a part entered from so deep; body: what its statements do -/
def bigEnter (k d : Nat) (body : Big → Big) (s : Big) : Big := if 8 ≤ d then { ent := mark k s.ent, n := s.n, fin := 1 } else body { s with ent := mark k s.ent }
/-- statements done, at a depth; the first number is fuel -/
def big (p : Prog) (out : List Nat) (v : Values) : Nat → Nat → Stmt → Big → Big
  | 0, _, _, s => s
  | _ + 1, _, .done, s => s
  | f + 1, d, .say _ r, s => gate s fun u => big p out v f d r u
  | f + 1, d, .call k r, s => gate s fun u => big p out v f d r (if out.contains k = true then { u with fin := 3 } else bigEnter k d (big p out v f (d + 1) (bodyOf p k)) u)
  | f + 1, d, .make ps r, s => gate s fun u => big p out v f d r (match partNamed p (madeName p v ps) with
      | none => u
      | some k => if out.contains k = true then u else bigEnter k d (big p out v f (d + 1) (bodyOf p k)) u)
  | f + 1, d, .when_ x w c r, s => gate s fun u => big p out v f d r (if v.getD x 0 = w then big p out v f d c u else u)
section
variable {p : Prog} {out : List Nat} {v : Values}
theorem gate_fin {s : Big} {k : Big → Big} (h : s.fin ≠ 0) : gate s k = s := if_pos h
theorem gate_long {s : Big} {k : Big → Big} (h : s.fin = 0) (h2 : 100 ≤ s.n) : gate s k = { s with fin := 2 } := by
  unfold gate
  rw [if_neg (fun z => z h), if_pos h2]
theorem gate_on {s : Big} {k : Big → Big} (h : s.fin = 0) (h2 : s.n < 100) : gate s k = k { s with n := s.n + 1 } := by
  unfold gate
  rw [if_neg (fun z => z h), if_neg (by omega)]
theorem big_fin {f d : Nat} {st : Stmt} {s : Big} (h : s.fin ≠ 0) : big p out v f d st s = s := by
  cases f with
  | zero => rfl
  | succ f => cases st <;> first | rfl | exact gate_fin h
/-- how far a run is from its end, at most -/
def phi (r : Run) : Nat := if r.fin = 0 then 2 * (101 - r.n) + r.todo.length else 0
theorem phi_over {r : Run} (h : phi r = 0) (hn : r.n ≤ 100) : over r = true := by
  unfold phi at h
  unfold over
  split at h
  · omega
  · rename_i hf
    have : (r.fin != 0) = true := by simpa using hf
    rw [this] <;> rfl
theorem enter_phi {k d : Nat} {r : Run} {t : List (Stmt × Nat)} (b : Stmt) (h : r.fin = 0) (hn : r.n < 100) : (Vakepa.enter p k d { r with n := r.n + 1, todo := (b, d) :: t }).n ≤ 100 ∧ phi (Vakepa.enter p k d { r with n := r.n + 1, todo := (b, d) :: t }) ≤ 2 * (100 - r.n) + t.length + 2 := by
  unfold Vakepa.enter
  split
  · exact ⟨hn, by unfold phi; rw [if_neg (by decide : ¬ (1 : Nat) = 0)]; exact Nat.zero_le _⟩
  · refine ⟨hn, ?_⟩
    unfold phi
    rw [if_pos (show r.fin = 0 from h)]
    show 2 * (101 - (r.n + 1)) + (t.length + 1 + 1) ≤ _
    omega
theorem phi_step {r : Run} (h : over r = false) (hn : r.n ≤ 100) : phi (step1 p out v r) < phi r ∧ (step1 p out v r).n ≤ 100 := by
  have h0 : r.fin = 0 ∧ r.todo.isEmpty = false := by
    unfold over at h
    have := Bool.or_eq_false_iff.mp h
    exact ⟨by simpa using this.1, this.2⟩
  obtain ⟨hf, ht⟩ := h0
  cases htd : r.todo with
  | nil => rw [htd] at ht; cases ht
  | cons x t =>
    obtain ⟨s, d⟩ := x
    have hp : phi r = 2 * (101 - r.n) + (t.length + 1) := by
      unfold phi
      rw [if_pos hf, htd] <;> rfl
    rw [hp]
    unfold step1
    rw [htd]
    cases s with
    | done =>
      (try dsimp only)
      refine ⟨?_, hn⟩
      unfold phi
      rw [if_pos (show r.fin = 0 from hf)]
      show 2 * (101 - r.n) + t.length < _
      omega
    | say k b =>
      (try dsimp only)
      split
      · refine ⟨?_, hn⟩
        unfold phi
        rw [if_neg (by decide : ¬ (2 : Nat) = 0)]
        omega
      · rename_i hl
        have hl' : ¬ 100 ≤ r.n := hl
        refine ⟨?_, by show r.n + 1 ≤ 100; omega⟩
        unfold phi
        rw [if_pos (show r.fin = 0 from hf)]
        show 2 * (101 - (r.n + 1)) + (t.length + 1) < _
        omega
    | call k b =>
      (try dsimp only)
      split
      · refine ⟨?_, hn⟩
        unfold phi
        rw [if_neg (by decide : ¬ (2 : Nat) = 0)]
        omega
      · rename_i hl
        have hl' : ¬ 100 ≤ r.n := hl
        split
        · refine ⟨?_, by show r.n + 1 ≤ 100; omega⟩
          unfold phi
          rw [if_neg (by decide : ¬ (3 : Nat) = 0)]
          omega
        · obtain ⟨e1, e2⟩ := enter_phi (p := p) (k := k) (d := d) (r := r) (t := t) b hf (by omega)
          refine ⟨Nat.lt_of_le_of_lt e2 (by omega), e1⟩
    | make ps b =>
      (try dsimp only)
      split
      · refine ⟨?_, hn⟩
        unfold phi
        rw [if_neg (by decide : ¬ (2 : Nat) = 0)]
        omega
      · rename_i hl
        have hl' : ¬ 100 ≤ r.n := hl
        have plain : phi { r with n := r.n + 1, todo := (b, d) :: t } < 2 * (101 - r.n) + (t.length + 1) := by
          unfold phi
          rw [if_pos (show r.fin = 0 from hf)]
          show 2 * (101 - (r.n + 1)) + (t.length + 1) < _
          omega
        cases partNamed p (madeName p v ps) with
        | none => exact ⟨plain, by show r.n + 1 ≤ 100; omega⟩
        | some k =>
          (try dsimp only)
          split
          · exact ⟨plain, by show r.n + 1 ≤ 100; omega⟩
          · obtain ⟨e1, e2⟩ := enter_phi (p := p) (k := k) (d := d) (r := r) (t := t) b hf (by omega)
            refine ⟨Nat.lt_of_le_of_lt e2 (by omega), e1⟩
    | when_ x w c b =>
      (try dsimp only)
      split
      · refine ⟨?_, hn⟩
        unfold phi
        rw [if_neg (by decide : ¬ (2 : Nat) = 0)]
        omega
      · rename_i hl
        have hl' : ¬ 100 ≤ r.n := hl
        refine ⟨?_, by show r.n + 1 ≤ 100; omega⟩
        unfold phi
        rw [if_pos (show r.fin = 0 from hf)]
        split
        · show 2 * (101 - (r.n + 1)) + (t.length + 1 + 1) < _
          omega
        · show 2 * (101 - (r.n + 1)) + (t.length + 1) < _
          omega
theorem go_over {f : Nat} {r : Run} (h : over r = true) : goBy p out v f r = r := by
  cases f with
  | zero => rfl
  | succ f => rw [goBy, if_pos h]
/-- enough fuel is enough -/
theorem go_fuel : ∀ (f g : Nat) (r : Run), phi r ≤ f → phi r ≤ g → r.n ≤ 100 → goBy p out v f r = goBy p out v g r
  | 0, g, r, h, _, hn => by
    have ho := phi_over (Nat.le_zero.mp h) hn
    rw [go_over ho, go_over ho]
  | f + 1, 0, r, _, h, hn => by
    have ho := phi_over (Nat.le_zero.mp h) hn
    rw [go_over ho, go_over ho]
  | f + 1, g + 1, r, h1, h2, hn => by
    cases ho : over r with
    | true => rw [go_over ho, go_over ho]
    | false =>
      obtain ⟨e1, e2⟩ := phi_step (p := p) (out := out) (v := v) ho hn
      rw [goBy, goBy, if_neg (by rw [ho]; decide), if_neg (by rw [ho]; decide)]
      exact go_fuel f g _ (by omega) (by omega) e2
/-- to the end -/
def toEnd (p : Prog) (out : List Nat) (v : Values) (r : Run) : Run := goBy p out v (phi r) r
theorem toEnd_step {r : Run} (h : over r = false) (hn : r.n ≤ 100) : toEnd p out v r = toEnd p out v (step1 p out v r) := by
  obtain ⟨e1, e2⟩ := phi_step (p := p) (out := out) (v := v) h hn
  unfold toEnd
  obtain ⟨f, hf⟩ : ∃ f, phi r = f + 1 := ⟨phi r - 1, by omega⟩
  rw [hf, goBy, if_neg (by rw [h]; decide)]
  exact go_fuel _ _ _ (by omega) (Nat.le_refl _) e2
theorem toEnd_over {r : Run} (h : over r = true) : toEnd p out v r = r := go_over h
theorem run_toEnd (e : Nat) : Vakepa.run p out e v = toEnd p out v (Vakepa.begin_ p out e) := by
  unfold Vakepa.run toEnd Vakepa.begin_
  split
  · rw [go_over rfl, go_over rfl]
  · exact go_fuel _ _ _ (by unfold phi; rw [if_pos rfl]; show 2 * (101 - 0) + 1 ≤ 400; decide) (Nat.le_refl _) (Nat.zero_le _)
theorem not_over {st : Stmt} {d : Nat} {t : List (Stmt × Nat)} {sd ent : List Nat} {n : Nat} : over ⟨(st, d) :: t, sd, ent, n, 0⟩ = false := rfl
/-- the recursion does what the steps do -/
theorem big_toEnd : ∀ (f d : Nat) (st : Stmt) (t : List (Stmt × Nat)) (sd ent : List Nat) (n : Nat), n ≤ 100 → 101 < f + n → ∃ sd' td,
    toEnd p out v ⟨(st, d) :: t, sd, ent, n, 0⟩ = toEnd p out v ⟨td, sd', (big p out v f d st ⟨ent, n, 0⟩).ent, (big p out v f d st ⟨ent, n, 0⟩).n, (big p out v f d st ⟨ent, n, 0⟩).fin⟩ ∧
    ((big p out v f d st ⟨ent, n, 0⟩).fin = 0 → td = t) ∧ n ≤ (big p out v f d st ⟨ent, n, 0⟩).n ∧ (big p out v f d st ⟨ent, n, 0⟩).n ≤ 100
  | 0, d, st, t, sd, ent, n, hn, hf => by omega
  | f + 1, d, .done, t, sd, ent, n, hn, hf => by
    refine ⟨sd, t, ?_, fun _ => rfl, Nat.le_refl _, hn⟩
    rw [toEnd_step not_over hn] <;> rfl
  | f + 1, d, .say k r, t, sd, ent, n, hn, hf => by
    have hs := toEnd_step (p := p) (out := out) (v := v) (r := ⟨(.say k r, d) :: t, sd, ent, n, 0⟩) not_over hn
    rw [hs]
    show ∃ sd' td, toEnd p out v (if 100 ≤ n then _ else _) = toEnd p out v ⟨td, sd', (gate _ _).ent, (gate _ _).n, (gate _ _).fin⟩ ∧ ((gate _ _).fin = 0 → _) ∧ _ ≤ (gate _ _).n ∧ (gate _ _).n ≤ 100
    by_cases hl : 100 ≤ n
    · rw [if_pos hl, gate_long rfl hl]
      exact ⟨sd, _, rfl, (fun z => (nomatch z)), Nat.le_refl _, hn⟩
    · rw [if_neg hl, gate_on rfl (by show n < 100; omega)]
      (try dsimp only)
      obtain ⟨sd', td, h1, h2, h3, h4⟩ := big_toEnd f d r t (sd ++ [k]) ent (n + 1) (by omega) (by omega)
      exact ⟨sd', td, h1, h2, by omega, h4⟩
  | f + 1, d, .call k r, t, sd, ent, n, hn, hf => by
    have hs := toEnd_step (p := p) (out := out) (v := v) (r := ⟨(.call k r, d) :: t, sd, ent, n, 0⟩) not_over hn
    rw [hs]
    show ∃ sd' td, toEnd p out v (if 100 ≤ n then _ else (if out.contains k = true then _ else _)) = toEnd p out v ⟨td, sd', (gate _ _).ent, (gate _ _).n, (gate _ _).fin⟩ ∧ ((gate _ _).fin = 0 → _) ∧ _ ≤ (gate _ _).n ∧ (gate _ _).n ≤ 100
    by_cases hl : 100 ≤ n
    · rw [if_pos hl, gate_long rfl hl]
      exact ⟨sd, _, rfl, (fun z => (nomatch z)), Nat.le_refl _, hn⟩
    · rw [if_neg hl, gate_on rfl (by show n < 100; omega)]
      (try dsimp only)
      by_cases ho : out.contains k = true
      · rw [if_pos ho, if_pos ho, big_fin (s := ⟨ent, n + 1, 3⟩) (by decide : (3 : Nat) ≠ 0)]
        exact ⟨sd, _, rfl, (fun z => (nomatch z)), Nat.le_succ _, by show n + 1 ≤ 100; omega⟩
      · rw [if_neg ho, if_neg ho]
        unfold Vakepa.enter bigEnter
        by_cases hd : 8 ≤ d
        · rw [if_pos (show CALLS ≤ d from hd), if_pos hd, big_fin (s := ⟨mark k ent, n + 1, 1⟩) (by decide : (1 : Nat) ≠ 0)]
          exact ⟨sd, _, rfl, (fun z => (nomatch z)), Nat.le_succ _, by show n + 1 ≤ 100; omega⟩
        · rw [if_neg (show ¬ CALLS ≤ d from hd), if_neg hd]
          obtain ⟨sd1, td1, h1, h2, h3, h4⟩ := big_toEnd f (d + 1) (bodyOf p k) ((r, d) :: t) sd (mark k ent) (n + 1) (by omega) (by omega)
          (try dsimp only at h1 ⊢)
          rw [h1]
          generalize big p out v f (d + 1) (bodyOf p k) ⟨mark k ent, n + 1, 0⟩ = s1 at h2 h3 h4 ⊢
          obtain ⟨e1, n1, f1⟩ := s1
          dsimp only at h2 h3 h4 ⊢
          by_cases hz : f1 = 0
          · subst hz
            rw [h2 rfl]
            obtain ⟨sd2, td2, g1, g2, g3, g4⟩ := big_toEnd f d r t sd1 e1 n1 h4 (by omega)
            exact ⟨sd2, td2, g1, g2, by omega, g4⟩
          · rw [big_fin hz]
            exact ⟨sd1, td1, rfl, fun z => absurd z hz, by show n ≤ n1; omega, h4⟩
  | f + 1, d, .make ps r, t, sd, ent, n, hn, hf => by
    have hs := toEnd_step (p := p) (out := out) (v := v) (r := ⟨(.make ps r, d) :: t, sd, ent, n, 0⟩) not_over hn
    rw [hs]
    show ∃ sd' td, toEnd p out v (if 100 ≤ n then _ else (match partNamed p (madeName p v ps) with | none => _ | some k => if out.contains k = true then _ else _)) = toEnd p out v ⟨td, sd', (gate _ _).ent, (gate _ _).n, (gate _ _).fin⟩ ∧ ((gate _ _).fin = 0 → _) ∧ _ ≤ (gate _ _).n ∧ (gate _ _).n ≤ 100
    by_cases hl : 100 ≤ n
    · rw [if_pos hl, gate_long rfl hl]
      exact ⟨sd, _, rfl, (fun z => (nomatch z)), Nat.le_refl _, hn⟩
    · rw [if_neg hl, gate_on rfl (by show n < 100; omega)]
      (try dsimp only)
      have plain := big_toEnd f d r t sd ent (n + 1) (by omega) (by omega)
      cases partNamed p (madeName p v ps) with
      | none =>
        dsimp only
        obtain ⟨sd', td, h1, h2, h3, h4⟩ := plain
        exact ⟨sd', td, h1, h2, by omega, h4⟩
      | some k =>
        (try dsimp only)
        by_cases ho : out.contains k = true
        · rw [if_pos ho, if_pos ho]
          obtain ⟨sd', td, h1, h2, h3, h4⟩ := plain
          exact ⟨sd', td, h1, h2, by omega, h4⟩
        · rw [if_neg ho, if_neg ho]
          unfold Vakepa.enter bigEnter
          by_cases hd : 8 ≤ d
          · rw [if_pos (show CALLS ≤ d from hd), if_pos hd, big_fin (s := ⟨mark k ent, n + 1, 1⟩) (by decide : (1 : Nat) ≠ 0)]
            exact ⟨sd, _, rfl, (fun z => (nomatch z)), Nat.le_succ _, by show n + 1 ≤ 100; omega⟩
          · rw [if_neg (show ¬ CALLS ≤ d from hd), if_neg hd]
            obtain ⟨sd1, td1, h1, h2, h3, h4⟩ := big_toEnd f (d + 1) (bodyOf p k) ((r, d) :: t) sd (mark k ent) (n + 1) (by omega) (by omega)
            (try dsimp only at h1 ⊢)
            rw [h1]
            generalize big p out v f (d + 1) (bodyOf p k) ⟨mark k ent, n + 1, 0⟩ = s1 at h2 h3 h4 ⊢
            obtain ⟨e1, n1, f1⟩ := s1
            dsimp only at h2 h3 h4 ⊢
            by_cases hz : f1 = 0
            · subst hz
              rw [h2 rfl]
              obtain ⟨sd2, td2, g1, g2, g3, g4⟩ := big_toEnd f d r t sd1 e1 n1 h4 (by omega)
              exact ⟨sd2, td2, g1, g2, by omega, g4⟩
            · rw [big_fin hz]
              exact ⟨sd1, td1, rfl, fun z => absurd z hz, by show n ≤ n1; omega, h4⟩
  | f + 1, d, .when_ x w c r, t, sd, ent, n, hn, hf => by
    have hs := toEnd_step (p := p) (out := out) (v := v) (r := ⟨(.when_ x w c r, d) :: t, sd, ent, n, 0⟩) not_over hn
    rw [hs]
    show ∃ sd' td, toEnd p out v (if 100 ≤ n then _ else _) = toEnd p out v ⟨td, sd', (gate _ _).ent, (gate _ _).n, (gate _ _).fin⟩ ∧ ((gate _ _).fin = 0 → _) ∧ _ ≤ (gate _ _).n ∧ (gate _ _).n ≤ 100
    by_cases hl : 100 ≤ n
    · rw [if_pos hl, gate_long rfl hl]
      exact ⟨sd, _, rfl, (fun z => (nomatch z)), Nat.le_refl _, hn⟩
    · rw [if_neg hl, gate_on rfl (by show n < 100; omega)]
      (try dsimp only)
      by_cases hw : v.getD x 0 = w
      · rw [if_pos hw, if_pos hw]
        obtain ⟨sd1, td1, h1, h2, h3, h4⟩ := big_toEnd f d c ((r, d) :: t) sd ent (n + 1) (by omega) (by omega)
        (try dsimp only at h1 ⊢)
        rw [h1]
        generalize big p out v f d c ⟨ent, n + 1, 0⟩ = s1 at h2 h3 h4 ⊢
        obtain ⟨e1, n1, f1⟩ := s1
        dsimp only at h2 h3 h4 ⊢
        by_cases hz : f1 = 0
        · subst hz
          rw [h2 rfl]
          obtain ⟨sd2, td2, g1, g2, g3, g4⟩ := big_toEnd f d r t sd1 e1 n1 h4 (by omega)
          exact ⟨sd2, td2, g1, g2, by omega, g4⟩
        · rw [big_fin hz]
          exact ⟨sd1, td1, rfl, fun z => absurd z hz, by show n ≤ n1; omega, h4⟩
      · rw [if_neg hw, if_neg hw]
        obtain ⟨sd', td, h1, h2, h3, h4⟩ := big_toEnd f d r t sd ent (n + 1) (by omega) (by omega)
        exact ⟨sd', td, h1, h2, by omega, h4⟩
/-- what a run enters -/
theorem run_entered (e : Nat) : (Vakepa.run p out e v).entered = if out.contains e = true then [] else (big p out v 102 0 (bodyOf p e) ⟨[e], 0, 0⟩).ent := by
  rw [run_toEnd]
  unfold Vakepa.begin_
  split
  · rw [toEnd_over rfl]
  · obtain ⟨sd', td, h1, h2, h3, h4⟩ := big_toEnd (p := p) (out := out) (v := v) 102 0 (bodyOf p e) [] [] [e] 0 (by decide) (by decide)
    rw [h1, toEnd_over]
    by_cases hz : (big p out v 102 0 (bodyOf p e) ⟨[e], 0, 0⟩).fin = 0
    · rw [h2 hz]
      unfold over
      show (_ || true) = true
      rw [Bool.or_true]
    · unfold over
      rw [show ((big p out v 102 0 (bodyOf p e) ⟨[e], 0, 0⟩).fin != 0) = true by simpa using hz] <;> rfl
/-! ### what was entered before is of no account -/
theorem mem_mark {k j : Nat} {l : List Nat} : k ∈ mark j l ↔ k = j ∨ k ∈ l := by
  unfold mark
  split
  · rename_i h
    have := List.contains_iff_mem.mp h
    exact ⟨.inr, fun z => z.elim (fun e => by rw [e]; exact this) id⟩
  · rw [List.mem_append, List.mem_singleton]
    exact ⟨fun z => z.elim .inr .inl, fun z => z.elim .inr .inl⟩
/-- the same but for parts E that were entered before -/
def Alike (E : List Nat) (s s0 : Big) : Prop := s.n = s0.n ∧ s.fin = s0.fin ∧ ∀ k, k ∈ s.ent ↔ k ∈ E ∨ k ∈ s0.ent
theorem alike_gate {E : List Nat} {s s0 : Big} {g g0 : Big → Big} (h : Alike E s s0) (hg : ∀ u u0, Alike E u u0 → Alike E (g u) (g0 u0)) : Alike E (gate s g) (gate s0 g0) := by
  obtain ⟨h1, h2, h3⟩ := h
  unfold gate
  rw [h1, h2]
  split
  · exact ⟨h1, h2, h3⟩
  · split
    · exact ⟨rfl, rfl, h3⟩
    · exact hg _ _ ⟨rfl, rfl, h3⟩
theorem alike_mark {E : List Nat} {s s0 : Big} {k : Nat} (h : ∀ j, j ∈ s.ent ↔ j ∈ E ∨ j ∈ s0.ent) : ∀ j, j ∈ mark k s.ent ↔ j ∈ E ∨ j ∈ mark k s0.ent := fun j => by
  rw [mem_mark, mem_mark, h]
  constructor
  · rintro (z | z | z)
    · exact .inr (.inl z)
    · exact .inl z
    · exact .inr (.inr z)
  · rintro (z | z | z)
    · exact .inr (.inl z)
    · exact .inl z
    · exact .inr (.inr z)
theorem alike_enter {E : List Nat} {s s0 : Big} {g : Big → Big} {k d : Nat} (h : Alike E s s0) (hg : ∀ u u0, Alike E u u0 → Alike E (g u) (g u0)) : Alike E (bigEnter k d g s) (bigEnter k d g s0) := by
  obtain ⟨h1, h2, h3⟩ := h
  unfold bigEnter
  split
  · exact ⟨h1, rfl, alike_mark h3⟩
  · exact hg _ _ ⟨h1, h2, alike_mark h3⟩
theorem big_alike : ∀ (f d : Nat) (st : Stmt) (E : List Nat) (s s0 : Big), Alike E s s0 → Alike E (big p out v f d st s) (big p out v f d st s0)
  | 0, _, _, _, _, _, h => h
  | f + 1, d, .done, _, _, _, h => h
  | f + 1, d, .say k r, E, s, s0, h => alike_gate h fun u u0 k => big_alike f d r E u u0 k
  | f + 1, d, .call k r, E, s, s0, h => alike_gate h fun u u0 g => big_alike f d r E _ _ (by
      split
      · exact ⟨g.1, rfl, g.2.2⟩
      · exact alike_enter g fun w w0 q => big_alike f (d + 1) (bodyOf p k) E w w0 q)
  | f + 1, d, .make ps r, E, s, s0, h => alike_gate h fun u u0 g => big_alike f d r E _ _ (by
      cases partNamed p (madeName p v ps) with
      | none => exact g
      | some k =>
        (try dsimp only)
        split
        · exact g
        · exact alike_enter g fun w w0 q => big_alike f (d + 1) (bodyOf p k) E w w0 q)
  | f + 1, d, .when_ x w c r, E, s, s0, h => alike_gate h fun u u0 g => big_alike f d r E _ _ (by
      split
      · exact big_alike f d c E _ _ g
      · exact g)
theorem big_ent {f d : Nat} {st : Stmt} {E : List Nat} {e n : Nat} : ∀ k, k ∈ (big p out v f d st ⟨mark e E, n, 0⟩).ent ↔ k ∈ E ∨ k ∈ (big p out v f d st ⟨[e], n, 0⟩).ent :=
  (big_alike f d st E ⟨mark e E, n, 0⟩ ⟨[e], n, 0⟩ ⟨rfl, rfl, fun k => by rw [mem_mark, List.mem_singleton]; exact ⟨fun z => z.elim .inr .inl, fun z => z.elim .inr .inl⟩⟩).2.2
end
end Vf

set_option linter.all false
set_option maxHeartbeats 2000000
/-! Chains: the rounds of a search, and what is come to. -/
namespace Vf
open VakepBase
open Vakepa (Prog mark inOrder)
open Vakepb (Next grow chainBy chainIn goOn comes tidy)
abbrev lst (c : List Nat) : Nat := c.getLastD 0
/-- a row without some parts -/
def rowOff (away r : List Nat) : List Nat := r.filter fun k => !away.contains k
/-- one number of a row looked at, at a chain -/
def put1 (away c : List Nat) (y : List Nat × List (List Nat)) (k : Nat) : List Nat × List (List Nat) := if y.1.contains k = true ∨ away.contains k = true then y else (y.1 ++ [k], y.2 ++ [c ++ [k]])
/-- one chain's row looked at -/
def putC (t : Next) (away : List Nat) (x : List Nat × List (List Nat)) (c : List Nat) : List Nat × List (List Nat) := (t.getD (lst c) []).foldl (put1 away c) x
def growA (t : Next) (away seen : List Nat) (cs : List (List Nat)) : List Nat × List (List Nat) := cs.foldl (putC t away) (seen, [])
/-- all chains that are found -/
def chAll (t : Next) (away : List Nat) : Nat → List Nat → List (List Nat) → List (List Nat)
  | 0, _, _ => []
  | f + 1, seen, cs => if cs.isEmpty = true then [] else cs ++ chAll t away f (growA t away seen cs).1 (growA t away seen cs).2
theorem getD_map {t : Next} {f : List Nat → List Nat} (h : f [] = []) (i : Nat) : (t.map f).getD i [] = f (t.getD i []) := by
  rw [List.getD_eq_getElem?_getD, List.getD_eq_getElem?_getD, List.getElem?_map]
  cases t[i]? with
  | none => exact h.symm
  | some r => rfl
theorem row_fold {away c : List Nat} : ∀ (r : List Nat) (y : List Nat × List (List Nat)), r.foldl (put1 away c) y = (rowOff away r).foldl (fun (y : List Nat × List (List Nat)) k => if y.1.contains k = true then y else (y.1 ++ [k], y.2 ++ [c ++ [k]])) y
  | [], _ => rfl
  | k :: r, y => by
    rw [List.foldl_cons, row_fold r]
    unfold rowOff
    rw [List.filter_cons]
    unfold put1
    cases q : away.contains k with
    | true =>
      rw [if_pos (.inr rfl)]
      rfl
    | false =>
      show _ = List.foldl _ y (k :: _)
      rw [List.foldl_cons]
      congr 1
      by_cases e : y.1.contains k = true
      · rw [if_pos (.inl e), if_pos e]
      · rw [if_neg (fun z => z.elim e (fun z => by cases z)), if_neg e]
theorem growA_eq (t : Next) (away seen : List Nat) (cs : List (List Nat)) : growA t away seen cs = grow (t.map (rowOff away)) seen cs := by
  unfold growA grow
  congr 1
  funext x c
  unfold putC
  rw [row_fold, getD_map rfl]
theorem chainBy_eq (t : Next) (away : List Nat) (goal : Nat) : ∀ (f : Nat) (seen : List Nat) (cs : List (List Nat)), chainBy (t.map (rowOff away)) goal f seen cs = (chAll t away f seen cs).find? fun c => c.getLast? == some goal
  | 0, _, _ => rfl
  | f + 1, seen, cs => by
    rw [chainBy, chAll]
    have ih := chainBy_eq t away goal f (growA t away seen cs).1 (growA t away seen cs).2
    rw [growA_eq] at ih ⊢
    cases cs with
    | nil =>
      rw [show (grow (t.map (rowOff away)) seen []).2 = [] from rfl] at ih
      dsimp only
      have e0 : chAll t away f (grow (t.map (rowOff away)) seen []).1 [] = [] := by
        cases f <;> rfl
      rw [e0] at ih
      exact ih
    | cons c cs =>
      rw [if_neg (by intro z; cases z), List.find?_append]
      cases (c :: cs).find? fun c => c.getLast? == some goal with
      | some x => rfl
      | none => exact ih
/-! ### what holds of a search -/
/-- n: how many parts; chains are told by their ends, in order -/
structure Srch (n : Nat) (away seen : List Nat) (cs : List (List Nat)) : Prop where
  nd : seen.Nodup
  lt : ∀ k ∈ seen, k < n ∧ k ∉ away
  ch : ∀ c ∈ cs, c ≠ [] ∧ c.Nodup ∧ ∀ k ∈ c, k ∈ seen
theorem last_mem {c : List Nat} (h : c ≠ []) : lst c ∈ c := by
  unfold lst
  cases c with
  | nil => exact absurd rfl h
  | cons a r =>
    rw [List.getLastD_cons]
    cases r with
    | nil => exact List.mem_cons_self ..
    | cons b s =>
      rw [List.getLastD_cons]
      refine List.mem_cons_of_mem _ ?_
      clear h
      induction s generalizing b with
      | nil => exact List.mem_cons_self ..
      | cons d s ih =>
        rw [List.getLastD_cons]
        exact List.mem_cons_of_mem _ (ih d)
theorem last_snoc (c : List Nat) (k : Nat) : lst (c ++ [k]) = k := by
  unfold lst
  rw [List.getLastD_eq_getLast?, List.getLast?_append] <;> rfl
/-- while a round goes on: what was found, new chains -/
structure Mid (n : Nat) (away seen : List Nat) (y : List Nat × List (List Nat)) : Prop where
  s : Srch n away y.1 y.2
  e : y.1 = seen ++ y.2.map lst
theorem mid_put {n : Nat} {away seen c : List Nat} {y : List Nat × List (List Nat)} (m : Mid n away seen y) (hc : c.Nodup ∧ ∀ k ∈ c, k ∈ y.1) {k : Nat} (hk : k < n) : Mid n away seen (put1 away c y k) ∧ ∀ j ∈ y.1, j ∈ (put1 away c y k).1 := by
  unfold put1
  split
  · exact ⟨m, fun j h => h⟩
  · rename_i hno
    have h1 : k ∉ y.1 := fun z => hno (.inl (List.contains_iff_mem.mpr z))
    have h2 : k ∉ away := fun z => hno (.inr (List.contains_iff_mem.mpr z))
    refine ⟨⟨⟨?_, ?_, ?_⟩, ?_⟩, fun j h => List.mem_append_left _ h⟩
    · show (y.1 ++ [k]).Nodup
      rw [List.nodup_append]
      refine ⟨m.s.nd, by simp, fun a ha b hb e => ?_⟩
      rw [List.mem_singleton] at hb
      subst hb
      subst e
      exact h1 ha
    · intro j hj
      rcases List.mem_append.mp hj with hj | hj
      · exact m.s.lt j hj
      · rw [List.mem_singleton] at hj
        subst hj
        exact ⟨hk, h2⟩
    · intro d hd
      rcases List.mem_append.mp hd with hd | hd
      · obtain ⟨a1, a2, a3⟩ := m.s.ch d hd
        exact ⟨a1, a2, fun j hj => List.mem_append_left _ (a3 j hj)⟩
      · rw [List.mem_singleton] at hd
        subst hd
        refine ⟨by simp, ?_, fun j hj => ?_⟩
        · rw [List.nodup_append]
          refine ⟨hc.1, by simp, fun a ha b hb e => ?_⟩
          rw [List.mem_singleton] at hb
          subst hb
          subst e
          exact h1 (hc.2 _ ha)
        · rcases List.mem_append.mp hj with hj | hj
          · exact List.mem_append_left _ (hc.2 j hj)
          · exact List.mem_append_right _ hj
    · show y.1 ++ [k] = seen ++ (y.2 ++ [c ++ [k]]).map lst
      rw [List.map_append, ← List.append_assoc, ← m.e, List.map_cons, List.map_nil, last_snoc]
theorem mid_row {n : Nat} {away seen c : List Nat} : ∀ (r : List Nat) {y : List Nat × List (List Nat)}, Mid n away seen y → (c.Nodup ∧ ∀ k ∈ c, k ∈ y.1) → (∀ k ∈ r, k < n) → Mid n away seen (r.foldl (put1 away c) y) ∧ ∀ j ∈ y.1, j ∈ (r.foldl (put1 away c) y).1
  | [], _, m, _, _ => ⟨m, fun _ h => h⟩
  | k :: r, y, m, hc, hr => by
    obtain ⟨m1, m2⟩ := mid_put m hc (hr k (List.mem_cons_self ..))
    obtain ⟨m3, m4⟩ := mid_row r m1 ⟨hc.1, fun j hj => m2 j (hc.2 j hj)⟩ (fun j hj => hr j (List.mem_cons_of_mem _ hj))
    exact ⟨m3, fun j hj => m4 j (m2 j hj)⟩
/-- all rows tell parts -/
def RowsLt (n : Nat) (t : Next) : Prop := ∀ r ∈ t, ∀ k ∈ r, k < n
theorem RowsLt.at {n : Nat} {t : Next} (h : RowsLt n t) (i : Nat) : ∀ k ∈ t.getD i [], k < n := by
  rw [List.getD_eq_getElem?_getD]
  cases q : t[i]? with
  | none => exact fun k hk => nomatch hk
  | some r => exact h r (List.mem_of_getElem? q)
theorem mid_all {n : Nat} {away seen : List Nat} {t : Next} (ht : RowsLt n t) : ∀ (cs : List (List Nat)) {y : List Nat × List (List Nat)}, Mid n away seen y → (∀ c ∈ cs, c.Nodup ∧ ∀ k ∈ c, k ∈ y.1) → Mid n away seen (cs.foldl (putC t away) y) ∧ ∀ j ∈ y.1, j ∈ (cs.foldl (putC t away) y).1
  | [], _, m, _ => ⟨m, fun _ h => h⟩
  | c :: cs, y, m, hc => by
    obtain ⟨m1, m2⟩ := mid_row (c := c) (t.getD (lst c) []) m (hc c (List.mem_cons_self ..)) (ht.at _)
    obtain ⟨m3, m4⟩ := mid_all ht cs (y := putC t away y c) m1 (fun d hd => ⟨(hc d (List.mem_cons_of_mem _ hd)).1, fun j hj => m2 j ((hc d (List.mem_cons_of_mem _ hd)).2 j hj)⟩)
    exact ⟨m3, fun j hj => m4 j (m2 j hj)⟩
theorem grow_mid {n : Nat} {away seen : List Nat} {t : Next} {cs : List (List Nat)} (ht : RowsLt n t) (s : Srch n away seen cs) : Mid n away seen (growA t away seen cs) ∧ ∀ j ∈ seen, j ∈ (growA t away seen cs).1 :=
  mid_all ht cs (y := (seen, [])) ⟨⟨s.nd, s.lt, fun c hc => nomatch hc⟩, by rw [List.map_nil, List.append_nil]⟩ fun c hc => (s.ch c hc).2
theorem le_of_lt {n : Nat} : ∀ {l : List Nat}, l.Nodup → (∀ k ∈ l, k < n) → l.length ≤ n := fun {l} h1 h2 => by
  have : l ⊆ List.range n := fun k hk => List.mem_range.mpr (h2 k hk)
  have := h1.length_le_of_subset this
  rwa [List.length_range] at this
theorem Srch.le {n : Nat} {away seen : List Nat} {cs : List (List Nat)} (s : Srch n away seen cs) : seen.length ≤ n := le_of_lt s.nd fun k hk => (s.lt k hk).1
theorem Srch.chle {n : Nat} {away seen : List Nat} {cs : List (List Nat)} (s : Srch n away seen cs) {c : List Nat} (h : c ∈ cs) : c.length ≤ n := le_of_lt (s.ch c h).2.1 fun k hk => (s.lt k ((s.ch c h).2.2 k hk)).1

/-- the next round's chains make a search, too -/
theorem Srch.next {n : Nat} {away seen : List Nat} {t : Next} {cs : List (List Nat)} (ht : RowsLt n t) (s : Srch n away seen cs) : Srch n away (growA t away seen cs).1 (growA t away seen cs).2 := (grow_mid ht s).1.s
theorem grow_len {n : Nat} {away seen : List Nat} {t : Next} {cs : List (List Nat)} (ht : RowsLt n t) (s : Srch n away seen cs) : (growA t away seen cs).1.length = seen.length + (growA t away seen cs).2.length := by
  have := congrArg List.length (grow_mid ht s).1.e
  rw [List.length_append, List.length_map] at this
  exact this
/-- so much fuel is enough -/
def Enough (n f : Nat) (seen : List Nat) (cs : List (List Nat)) : Prop := cs ≠ [] → n < f + seen.length
theorem Enough.next {n f : Nat} {away seen : List Nat} {t : Next} {cs : List (List Nat)} (ht : RowsLt n t) (s : Srch n away seen cs) (h : n < f + 1 + seen.length) : Enough n f (growA t away seen cs).1 (growA t away seen cs).2 := by
  intro hne
  rw [grow_len ht s]
  have : 1 ≤ (growA t away seen cs).2.length := by
    cases q : (growA t away seen cs).2 with
    | nil => exact absurd q hne
    | cons _ _ => exact Nat.le_add_left _ _
  omega
/-- what a round that is not empty gives -/
theorem chAll_cons {t : Next} {away seen : List Nat} {cs : List (List Nat)} {f : Nat} (h : cs ≠ []) : chAll t away (f + 1) seen cs = cs ++ chAll t away f (growA t away seen cs).1 (growA t away seen cs).2 := by
  rw [chAll, if_neg]
  cases cs with
  | nil => exact absurd rfl h
  | cons _ _ => intro z; cases z
theorem chAll_nil {t : Next} {away seen : List Nat} {f : Nat} : chAll t away f seen [] = [] := by
  cases f <;> rfl
/-- all chains keep what a search keeps, and no two end alike -/
theorem chAll_ok {n : Nat} {away : List Nat} {t : Next} (ht : RowsLt n t) : ∀ (f : Nat) (seen : List Nat) (cs : List (List Nat)) (pre : List Nat), Srch n away seen cs → seen = pre ++ cs.map lst → Enough n f seen cs →
    (pre ++ (chAll t away f seen cs).map lst).Nodup ∧ (∀ k ∈ pre ++ (chAll t away f seen cs).map lst, k < n ∧ k ∉ away) ∧ ∀ c ∈ chAll t away f seen cs, c ≠ [] ∧ c.length ≤ n
  | 0, seen, cs, pre, s, e, en => by
    cases cs with
    | nil => 
      rw [chAll_nil, List.map_nil]
      rw [List.map_nil] at e
      exact ⟨by rw [← e]; exact s.nd, by rw [← e]; exact s.lt, fun c hc => nomatch hc⟩
    | cons c cs =>
      have h1 := en (by simp)
      have h2 := s.le
      omega
  | f + 1, seen, cs, pre, s, e, en => by
    by_cases hc : cs = []
    · subst hc
      rw [chAll_nil, List.map_nil]
      rw [List.map_nil] at e
      exact ⟨by rw [← e]; exact s.nd, by rw [← e]; exact s.lt, fun c hc => nomatch hc⟩
    · have m := grow_mid ht s
      rw [chAll_cons hc]
      obtain ⟨i1, i2, i3⟩ := chAll_ok ht f _ _ seen (s.next ht) m.1.e (Enough.next ht s (en hc))
      rw [List.map_append, ← List.append_assoc, ← e]
      refine ⟨i1, i2, fun c h => ?_⟩
      rcases List.mem_append.mp h with h | h
      · exact ⟨(s.ch c h).1, s.chle h⟩
      · exact i3 c h
/-- where the rows lead is found -/
theorem chAll_closed {n : Nat} {away : List Nat} {t : Next} (ht : RowsLt n t) : ∀ (f : Nat) (seen : List Nat) (cs : List (List Nat)), Srch n away seen cs → Enough n f seen cs →
    ∀ c ∈ chAll t away f seen cs, ∀ k ∈ t.getD (lst c) [], k ∉ away → k ∈ seen ∨ k ∈ (chAll t away f seen cs).map lst
  | 0, _, _, _, _, c, hc, _, _, _ => nomatch hc
  | f + 1, seen, cs, s, en, c, hc, k, hk, ha => by
    by_cases hcs : cs = []
    · subst hcs
      rw [chAll_nil] at hc
      exact nomatch hc
    · have m := grow_mid ht s
      rw [chAll_cons hcs] at hc ⊢
      have fin : k ∈ (growA t away seen cs).1 ∨ k ∈ (chAll t away f (growA t away seen cs).1 (growA t away seen cs).2).map lst → k ∈ seen ∨ k ∈ (cs ++ chAll t away f (growA t away seen cs).1 (growA t away seen cs).2).map lst := by
        rintro (z | z)
        · rw [m.1.e] at z
          rcases List.mem_append.mp z with z | z
          · exact .inl z
          · right
            rw [List.map_append]
            refine List.mem_append_right _ ?_
            by_cases hn : (growA t away seen cs).2 = []
            · rw [hn] at z
              exact nomatch z
            · have := Enough.next ht s (en hcs) hn
              obtain ⟨g, rfl⟩ : ∃ g, f = g + 1 := ⟨f - 1, by have := (s.next ht).le; omega⟩
              rw [chAll_cons hn, List.map_append]
              exact List.mem_append_left _ z
        · right
          rw [List.map_append]
          exact List.mem_append_right _ z
      rcases List.mem_append.mp hc with hc | hc
      · refine fin (.inl ?_)
        -- the row of c was looked at
        have look : ∀ (r : List Nat) (y : List Nat × List (List Nat)), Mid n away seen y → (c.Nodup ∧ ∀ k ∈ c, k ∈ y.1) → (∀ k ∈ r, k < n) → ∀ k ∈ r, k ∉ away → k ∈ (r.foldl (put1 away c) y).1 := by
          intro r
          induction r with
          | nil => exact fun _ _ _ _ k hk => nomatch hk
          | cons a r ih =>
            intro y m hc hr k hk ha
            obtain ⟨m1, m2⟩ := mid_put m hc (hr a (List.mem_cons_self ..))
            rcases List.mem_cons.mp hk with rfl | hk
            · have h1 : k ∈ (put1 away c y k).1 := by
                unfold put1
                split
                · rename_i z
                  rcases z with z | z
                  · exact List.contains_iff_mem.mp z
                  · exact absurd (List.contains_iff_mem.mp z) ha
                · exact List.mem_append_right _ (List.mem_singleton.mpr rfl)
              exact (mid_row (c := c) r m1 ⟨hc.1, fun j hj => m2 j (hc.2 j hj)⟩ (fun j hj => hr j (List.mem_cons_of_mem _ hj))).2 k h1
            · exact ih (put1 away c y a) m1 ⟨hc.1, fun j hj => m2 j (hc.2 j hj)⟩ (fun j hj => hr j (List.mem_cons_of_mem _ hj)) k hk ha
        have all : ∀ (ds : List (List Nat)) (y : List Nat × List (List Nat)), Mid n away seen y → (∀ d ∈ ds, d.Nodup ∧ ∀ k ∈ d, k ∈ y.1) → c ∈ ds → k ∈ (ds.foldl (putC t away) y).1 := by
          intro ds
          induction ds with
          | nil => exact fun _ _ _ h => nomatch h
          | cons d ds ih =>
            intro y m hd h
            obtain ⟨m1, m2⟩ := mid_row (c := d) (t.getD (lst d) []) m (hd d (List.mem_cons_self ..)) (ht.at _)
            have hd' : ∀ e ∈ ds, e.Nodup ∧ ∀ k ∈ e, k ∈ (putC t away y d).1 := fun e he => ⟨(hd e (List.mem_cons_of_mem _ he)).1, fun j hj => m2 j ((hd e (List.mem_cons_of_mem _ he)).2 j hj)⟩
            rcases List.mem_cons.mp h with rfl | h
            · have := look (t.getD (lst c) []) y m (hd c (List.mem_cons_self ..)) (ht.at _) k hk ha
              exact (mid_all ht ds (y := putC t away y c) m1 hd').2 k this
            · exact ih (putC t away y d) m1 hd' h
        exact all cs (seen, []) ⟨⟨s.nd, s.lt, fun c hc => nomatch hc⟩, by rw [List.map_nil, List.append_nil]⟩ (fun d hd => (s.ch d hd).2) hc
      · exact fin (chAll_closed ht f _ _ (s.next ht) (Enough.next ht s (en hcs)) c hc k hk ha)
/-! ### all that is come to -/
abbrev goStep (t : Next) (gone l : List Nat) : List Nat := (l.flatMap fun k => t.getD k []).foldl (fun l k => if gone.contains k = true then l else mark k l) l
theorem mem_markV {k j : Nat} {l : List Nat} : k ∈ mark j l ↔ k = j ∨ k ∈ l := by
  unfold mark
  split
  · rename_i h
    have := List.contains_iff_mem.mp h
    exact ⟨.inr, fun z => z.elim (fun e => by rw [e]; exact this) id⟩
  · rw [List.mem_append, List.mem_singleton]
    exact ⟨fun z => z.elim .inr .inl, fun z => z.elim .inr .inl⟩
theorem mem_goFold {gone : List Nat} {k : Nat} : ∀ (r l : List Nat), k ∈ r.foldl (fun l k => if gone.contains k = true then l else mark k l) l ↔ k ∈ l ∨ (k ∈ r ∧ k ∉ gone)
  | [], l => ⟨.inl, fun z => z.elim id fun z => nomatch z.1⟩
  | a :: r, l => by
    rw [List.foldl_cons, mem_goFold r]
    by_cases h : gone.contains a = true
    · rw [if_pos h]
      have := List.contains_iff_mem.mp h
      constructor
      · rintro (z | ⟨z, y⟩)
        · exact .inl z
        · exact .inr ⟨List.mem_cons_of_mem _ z, y⟩
      · rintro (z | ⟨z, y⟩)
        · exact .inl z
        · rcases List.mem_cons.mp z with rfl | z
          · exact absurd this y
          · exact .inr ⟨z, y⟩
    · rw [if_neg h, mem_markV]
      have : a ∉ gone := fun z => h (List.contains_iff_mem.mpr z)
      constructor
      · rintro ((rfl | z) | ⟨z, y⟩)
        · exact .inr ⟨List.mem_cons_self .., this⟩
        · exact .inl z
        · exact .inr ⟨List.mem_cons_of_mem _ z, y⟩
      · rintro (z | ⟨z, y⟩)
        · exact .inl (.inr z)
        · rcases List.mem_cons.mp z with rfl | z
          · exact .inl (.inl rfl)
          · exact .inr ⟨z, y⟩
theorem mem_goStep {t : Next} {gone l : List Nat} {k : Nat} : k ∈ goStep t gone l ↔ k ∈ l ∨ ((∃ j ∈ l, k ∈ t.getD j []) ∧ k ∉ gone) := by
  unfold goStep
  rw [mem_goFold, List.mem_flatMap]
theorem goOn_succ (t : Next) (gone : List Nat) (f : Nat) (l : List Nat) : goOn t gone (f + 1) l = goOn t gone f (goStep t gone l) := rfl
theorem goOn_mono {t : Next} {gone : List Nat} : ∀ (f : Nat) (l : List Nat), ∀ k ∈ l, k ∈ goOn t gone f l
  | 0, _, _, h => h
  | f + 1, l, k, h => goOn_mono f _ k (mem_goStep.mpr (.inl h))
/-- a set that is closed holds all that is come to -/
theorem goOn_sub {t : Next} {gone : List Nat} {S : Nat → Prop} (hS : ∀ j, S j → ∀ k ∈ t.getD j [], k ∉ gone → S k) : ∀ (f : Nat) (l : List Nat), (∀ k ∈ l, S k) → ∀ k ∈ goOn t gone f l, S k
  | 0, _, h, k, hk => h k hk
  | f + 1, l, h, k, hk => goOn_sub hS f (goStep t gone l) (fun j hj => by
      rcases mem_goStep.mp hj with z | ⟨⟨i, hi, z⟩, y⟩
      · exact h j z
      · exact hS i (h i hi) j z y) k hk
theorem grow_goes {n : Nat} {t : Next} {away : List Nat} (l : List Nat) : ∀ (cs : List (List Nat)) (y : List Nat × List (List Nat)), (∀ c ∈ cs, lst c ∈ l) → (∀ k ∈ y.1, k ∈ goStep t away l) → ∀ k ∈ (cs.foldl (putC t away) y).1, k ∈ goStep t away l := by
  intro cs
  induction cs with
  | nil => exact fun y _ h => h
  | cons c cs ih =>
    intro y hc hy
    refine ih (putC t away y c) (fun d hd => hc d (List.mem_cons_of_mem _ hd)) ?_
    unfold putC
    have hl := hc c (List.mem_cons_self ..)
    have : ∀ (r : List Nat) (y : List Nat × List (List Nat)), (∀ k ∈ r, k ∈ t.getD (lst c) []) → (∀ k ∈ y.1, k ∈ goStep t away l) → ∀ k ∈ (r.foldl (put1 away c) y).1, k ∈ goStep t away l := by
      intro r
      induction r with
      | nil => exact fun y _ h => h
      | cons a r ih2 =>
        intro y hr hy
        refine ih2 (put1 away c y a) (fun k hk => hr k (List.mem_cons_of_mem _ hk)) ?_
        unfold put1
        split
        · exact hy
        · rename_i hno
          intro k hk
          rcases List.mem_append.mp hk with hk | hk
          · exact hy k hk
          · rw [List.mem_singleton] at hk
            subst hk
            exact mem_goStep.mpr (.inr ⟨⟨_, hl, hr _ (List.mem_cons_self ..)⟩, fun z => hno (.inr (List.contains_iff_mem.mpr z))⟩)
    exact this _ y (fun _ h => h) hy
theorem chAll_goes {n : Nat} {t : Next} {away : List Nat} (ht : RowsLt n t) : ∀ (f : Nat) (seen : List Nat) (cs : List (List Nat)) (l : List Nat), Srch n away seen cs → (∀ k ∈ seen, k ∈ l) → ∀ k ∈ (chAll t away (f + 1) seen cs).map lst, k ∈ goOn t away f l
  | f, seen, cs, l, s, hs, k, hk => by
    by_cases hc : cs = []
    · subst hc
      rw [chAll_nil] at hk
      exact nomatch hk
    · rw [chAll_cons hc, List.map_append] at hk
      rcases List.mem_append.mp hk with hk | hk
      · obtain ⟨c, h1, rfl⟩ := List.mem_map.mp hk
        exact goOn_mono f l _ (hs _ ((s.ch c h1).2.2 _ (last_mem (s.ch c h1).1)))
      · cases f with
        | zero => exact nomatch hk
        | succ f =>
          rw [goOn_succ]
          refine chAll_goes ht f _ _ (goStep t away l) (s.next ht) (fun j hj => ?_) k hk
          refine grow_goes (n := n) l cs (seen, []) (fun c h => hs _ ((s.ch c h).2.2 _ (last_mem (s.ch c h).1))) (fun j hj => mem_goStep.mpr (.inl (hs j hj))) j hj
/-- the entries that are not left away, as chains -/
abbrev ents (es away : List Nat) : List Nat := es.filter fun k => !away.contains k
/-- all that one search finds -/
def found (n : Nat) (t : Next) (es away : List Nat) : List (List Nat) := chAll t away (n + 1) (ents es away) ((ents es away).map fun e => [e])
theorem start_srch {n : Nat} {es away : List Nat} (hn : es.Nodup) (hl : ∀ k ∈ es, k < n) : Srch n away (ents es away) ((ents es away).map fun e => [e]) :=
  ⟨hn.filter _, fun k hk => by
    obtain ⟨h1, h2⟩ := List.mem_filter.mp hk
    exact ⟨hl k h1, fun z => by simp [z] at h2⟩, fun c hc => by
    obtain ⟨e, he, rfl⟩ := List.mem_map.mp hc
    exact ⟨by simp, by simp, fun k hk => by rw [List.mem_singleton.mp hk]; exact he⟩⟩
theorem ents_lst (l : List Nat) : (l.map fun e => [e]).map lst = l := by
  rw [List.map_map]
  show l.map (fun e => e) = l
  rw [List.map_id'']
  exact fun _ => rfl
theorem start_enough {n : Nat} {seen : List Nat} {cs : List (List Nat)} : Enough n (n + 1) seen cs := fun _ => by omega
theorem found_ok {n : Nat} {t : Next} {es away : List Nat} (ht : RowsLt n t) (hn : es.Nodup) (hl : ∀ k ∈ es, k < n) :
    ((found n t es away).map lst).Nodup ∧ (∀ k ∈ (found n t es away).map lst, k < n ∧ k ∉ away) ∧ ∀ c ∈ found n t es away, c ≠ [] ∧ c.length ≤ n := by
  have := chAll_ok ht (n + 1) _ _ [] (start_srch (away := away) hn hl) (by rw [ents_lst, List.nil_append]) start_enough
  rw [List.nil_append] at this
  exact this
/-- what is found is what is come to -/
theorem found_comes {n : Nat} {t : Next} {es away : List Nat} (ht : RowsLt n t) (hn : es.Nodup) (hl : ∀ k ∈ es, k < n) (k : Nat) : k ∈ (found n t es away).map lst ↔ k ∈ goOn t away n (ents es away) := by
  have hs := start_srch (n := n) (away := away) hn hl
  have hin : ∀ k ∈ ents es away, k ∈ (found n t es away).map lst := fun k hk => by
    unfold found
    have : (ents es away).map (fun e => [e]) ≠ [] := by
      intro z
      have := List.map_eq_nil_iff.mp z
      rw [this] at hk
      exact nomatch hk
    rw [chAll_cons this, List.map_append, ents_lst]
    exact List.mem_append_left _ hk
  constructor
  · exact chAll_goes ht n _ _ _ hs (fun _ h => h) k
  · refine goOn_sub (S := fun k => k ∈ (found n t es away).map lst) (fun j hj k hk ha => ?_) n _ hin k
    obtain ⟨c, h1, rfl⟩ := List.mem_map.mp hj
    rcases chAll_closed ht (n + 1) _ _ hs start_enough c h1 k hk ha with z | z
    · exact hin k z
    · exact z
theorem found_in {n : Nat} {t : Next} {es away : List Nat} {k : Nat} (hk : k ∈ ents es away) : k ∈ (found n t es away).map lst := by
  unfold found
  have : (ents es away).map (fun e => [e]) ≠ [] := by
    intro z
    have := List.map_eq_nil_iff.mp z
    rw [this] at hk
    exact nomatch hk
  rw [chAll_cons this, List.map_append, ents_lst]
  exact List.mem_append_left _ hk
theorem found_closed {n : Nat} {t : Next} {es away : List Nat} (ht : RowsLt n t) (hn : es.Nodup) (hl : ∀ k ∈ es, k < n) {j k : Nat} (hj : j ∈ (found n t es away).map lst) (hk : k ∈ t.getD j []) (ha : k ∉ away) : k ∈ (found n t es away).map lst := by
  obtain ⟨c, h1, rfl⟩ := List.mem_map.mp hj
  rcases chAll_closed ht (n + 1) _ _ (start_srch (away := away) hn hl) start_enough c h1 k hk ha with z | z
  · exact found_in z
  · exact z
end Vf

set_option linter.all false
set_option maxHeartbeats 2000000
/-! What is come to by the modes, what is lost, the closest, the heaviest. -/
namespace Vf
open VakepBase
open Vakepa (Prog mark inOrder assignments total valuesOf bodyOf callsBy callsAny)
open Vakepb (Next grow chainBy chainIn goOn comes comesAll tidy nextBy nextAny tables lost reachedBy enters above closest heavier chainOf MODES)
theorem mem_inOrder {p : Prog} {l : List Nat} {k : Nat} : k ∈ inOrder p l ↔ k < p.parts.length ∧ k ∈ l := by
  unfold inOrder
  rw [List.mem_filter, List.mem_range, List.contains_iff_mem]
theorem asc_range (n : Nat) : (List.range n).Pairwise (· < ·) := List.pairwise_lt_range
theorem asc_inOrder (p : Prog) (l : List Nat) : (inOrder p l).Pairwise (· < ·) := (asc_range _).filter _
theorem asc_nodup {l : List Nat} (h : l.Pairwise (· < ·)) : l.Nodup := h.imp fun h => Nat.ne_of_lt h
theorem asc_eq {l m : List Nat} (hl : l.Pairwise (· < ·)) (hm : m.Pairwise (· < ·)) (h : ∀ k, k ∈ l ↔ k ∈ m) : l = m := by
  refine List.Perm.eq_of_pairwise (le := (· < ·)) (fun a b _ _ h1 h2 => ?_) hl hm ((List.perm_ext_iff_of_nodup (asc_nodup hl) (asc_nodup hm)).mpr h)
  exact absurd h1 (Nat.lt_asymm h2)
abbrev toZ (l : List Nat) : List Int := l.map fun (n : Nat) => (n : Int)
/-- what a sort gives -/
theorem sorted_is {ns : List Int} {ks R : List Nat} (h : ns.Perm (toZ ks)) (hs : ns.Pairwise (· ≤ ·)) (hk : ks.Nodup) (hR : R.Pairwise (· < ·)) (hm : ∀ k, k ∈ ks ↔ k ∈ R) : ns = toZ R := by
  have hp : ks.Perm R := (List.perm_ext_iff_of_nodup hk (asc_nodup hR)).mpr hm
  refine List.Perm.eq_of_pairwise (le := (· ≤ ·)) (fun a b _ _ h1 h2 => Int.le_antisymm h1 h2) hs ?_ (h.trans (hp.map _))
  unfold toZ
  rw [List.pairwise_map]
  exact hR.imp fun h => by omega
/-! ### the tables -/
theorem rows_tidy (p : Prog) (f : Nat → List Nat) : RowsLt p.parts.length ((List.range p.parts.length).map fun k => tidy p (f k)) := by
  intro r hr k hk
  obtain ⟨j, _, rfl⟩ := List.mem_map.mp hr
  exact (mem_inOrder.mp hk).1
theorem rows_by (p : Prog) (a : Nat) : RowsLt p.parts.length (nextBy p a) := rows_tidy p _
theorem rows_any (p : Prog) : RowsLt p.parts.length (nextAny p) := rows_tidy p _
theorem rows_tables (p : Prog) (m : Nat) : ∀ t ∈ tables p m, RowsLt p.parts.length t := by
  intro t ht
  unfold tables at ht
  split at ht
  · obtain ⟨a, _, rfl⟩ := List.mem_map.mp ht
    exact rows_by p a
  · rw [List.mem_singleton] at ht
    subst ht
    exact rows_any p
/-! ### what is come to -/
section
variable {p : Prog} (hw : Wfp p)
include hw
theorem mem_comes {t : Next} (ht : RowsLt p.parts.length t) {gone : List Nat} {k : Nat} : k ∈ comes p t gone ↔ k ∈ (found p.parts.length t p.starts gone).map lst := by
  unfold comes tidy
  rw [mem_inOrder, ← found_comes ht hw.en hw.eg]
  exact ⟨fun h => h.2, fun h => ⟨((found_ok ht hw.en hw.eg).2.1 k h).1, h⟩⟩
theorem mem_comesAll {m : Nat} {gone : List Nat} {k : Nat} : k ∈ comesAll p m gone ↔ ∃ t ∈ tables p m, k ∈ (found p.parts.length t p.starts gone).map lst := by
  unfold comesAll tidy
  rw [mem_inOrder, List.mem_flatMap]
  constructor
  · rintro ⟨_, t, ht, h⟩
    exact ⟨t, ht, (mem_comes hw (rows_tables p m t ht)).mp h⟩
  · rintro ⟨t, ht, h⟩
    exact ⟨((found_ok (rows_tables p m t ht) hw.en hw.eg).2.1 k h).1, t, ht, (mem_comes hw (rows_tables p m t ht)).mpr h⟩
end
theorem mem_enters {p : Prog} {gone : List Nat} {k : Nat} : k ∈ enters p gone ↔ k < p.parts.length ∧ ∃ e ∈ p.starts, ∃ a, a < total p ∧ k ∈ (Vakepa.run p gone e (valuesOf p a)).entered := by
  unfold enters tidy
  rw [mem_inOrder, List.mem_flatMap]
  refine and_congr_right fun _ => ⟨?_, ?_⟩
  · rintro ⟨e, he, h⟩
    obtain ⟨a, ha, h⟩ := List.mem_flatMap.mp h
    exact ⟨e, he, a, List.mem_range.mp ha, h⟩
  · rintro ⟨e, he, a, ha, h⟩
    exact ⟨e, he, List.mem_flatMap.mpr ⟨a, List.mem_range.mpr ha, h⟩⟩
theorem asc_reached (p : Prog) (m : Nat) (gone : List Nat) : (reachedBy p m gone).Pairwise (· < ·) := by
  unfold reachedBy
  split
  · exact asc_inOrder p _
  · exact asc_inOrder p _
theorem reached_lt {p : Prog} {m : Nat} {gone : List Nat} {k : Nat} (h : k ∈ reachedBy p m gone) : k < p.parts.length := by
  unfold reachedBy at h
  split at h
  · exact (mem_inOrder.mp h).1
  · exact (mem_inOrder.mp h).1
/-! ### only which parts are away counts -/
/-- the same parts -/
def SameP (a b : List Nat) : Prop := ∀ k, k ∈ a ↔ k ∈ b
theorem SameP.con {a b : List Nat} (h : SameP a b) (k : Nat) : a.contains k = b.contains k := by
  rw [Bool.eq_iff_iff, List.contains_iff_mem, List.contains_iff_mem]
  exact h k
theorem step1_same {p : Prog} {a b : List Nat} (h : SameP a b) (v : Vakepa.Values) (r : Vakepa.Run) : Vakepa.step1 p a v r = Vakepa.step1 p b v r := by
  unfold Vakepa.step1
  simp only [h.con]
theorem go_same {p : Prog} {a b : List Nat} (h : SameP a b) (v : Vakepa.Values) : ∀ (f : Nat) (r : Vakepa.Run), Vakepa.goBy p a v f r = Vakepa.goBy p b v f r
  | 0, _ => rfl
  | f + 1, r => by
    rw [Vakepa.goBy, Vakepa.goBy, step1_same h, go_same h v f]
theorem run_same {p : Prog} {a b : List Nat} (h : SameP a b) (e : Nat) (v : Vakepa.Values) : Vakepa.run p a e v = Vakepa.run p b e v := by
  unfold Vakepa.run Vakepa.begin_
  rw [h.con, go_same h]
theorem goOn_same {t : Next} {a b : List Nat} (h : SameP a b) : ∀ (f : Nat) (l : List Nat), goOn t a f l = goOn t b f l
  | 0, _ => rfl
  | f + 1, l => by
    rw [goOn, goOn]
    simp only [h.con]
    exact goOn_same h f _
theorem reached_same {p : Prog} {a b : List Nat} (h : SameP a b) (m : Nat) : reachedBy p m a = reachedBy p m b := by
  unfold reachedBy enters comesAll comes
  simp only [run_same h, goOn_same h, h.con]
theorem lost_same {p : Prog} {a b : List Nat} (h : SameP a b) (m : Nat) : lost p m a = lost p m b := by
  unfold lost
  rw [reached_same h]
/-! ### what is lost -/
theorem mem_lost {p : Prog} {m : Nat} {gone : List Nat} {k : Nat} : k ∈ lost p m gone ↔ k ∈ reachedBy p m [] ∧ k ∉ reachedBy p m gone := by
  unfold lost
  dsimp only
  rw [List.mem_filter]
  refine and_congr_right fun _ => ?_
  rw [Bool.not_eq_true', ← Bool.not_eq_true, List.contains_iff_mem]
theorem asc_lost (p : Prog) (m : Nat) (gone : List Nat) : (lost p m gone).Pairwise (· < ·) := (asc_reached p m []).filter _
theorem reached_any {p : Prog} (hw : Wfp p) {gone : List Nat} {k : Nat} : k ∈ reachedBy p 1 gone ↔ k ∈ (found p.parts.length (nextAny p) p.starts gone).map lst := by
  have e1 : reachedBy p 1 gone = comesAll p 1 gone := by
    unfold reachedBy
    rw [if_neg (by decide)]
  rw [e1, mem_comesAll hw]
  unfold tables
  rw [if_neg (by decide)]
  exact ⟨fun ⟨t, ht, h⟩ => by rw [List.mem_singleton] at ht; subst ht; exact h, fun h => ⟨_, List.mem_singleton.mpr rfl, h⟩⟩
theorem mem_ents {es away : List Nat} {k : Nat} : k ∈ ents es away ↔ k ∈ es ∧ k ∉ away := by
  unfold ents
  rw [List.mem_filter, Bool.not_eq_true', ← Bool.not_eq_true, List.contains_iff_mem]
/-- with a part that is not come to nothing is lost -/
theorem lost_off {p : Prog} (hw : Wfp p) {x k : Nat} (hx : x ∉ reachedBy p 1 []) : k ∉ lost p 1 [x] := by
  rw [mem_lost]
  rintro ⟨h1, h2⟩
  refine h2 ?_
  rw [reached_any hw] at h1 hx ⊢
  have ht := rows_any p
  rw [found_comes ht hw.en hw.eg] at h1
  refine (goOn_sub (S := fun j => j ∈ (found p.parts.length (nextAny p) p.starts []).map lst ∧ j ∈ (found p.parts.length (nextAny p) p.starts [x]).map lst) (fun j hj k hk ha => ?_) _ _ (fun j hj => ?_) k h1).2
  · have h0 := found_closed ht hw.en hw.eg hj.1 hk ha
    exact ⟨h0, found_closed ht hw.en hw.eg hj.2 hk fun z => by rw [List.mem_singleton.mp z] at h0; exact hx h0⟩
  · have h0 := found_in (n := p.parts.length) (t := nextAny p) hj
    refine ⟨h0, found_in (mem_ents.mpr ⟨(mem_ents.mp hj).1, fun z => ?_⟩)⟩
    rw [List.mem_singleton.mp z] at h0
    exact hx h0
/-! ### the closest -/
/-- those on which a part hangs, as the program looks for them -/
def holders (p : Prog) (k : Nat) : List Nat := (reachedBy p 1 []).filter fun o => decide (o ≠ k) && (lost p 1 [o]).contains k
theorem above_eq {p : Prog} (hw : Wfp p) (k : Nat) : (above p k).filter (fun x => x != k) = holders p k := by
  refine asc_eq (((asc_range _).filter _).filter _) ((asc_reached p 1 []).filter _) fun x => ?_
  unfold above holders
  rw [List.mem_filter, List.mem_filter, List.mem_filter, List.mem_range, Bool.and_eq_true, decide_eq_true_eq, bne_iff_ne]
  constructor
  · rintro ⟨⟨h1, h2⟩, h3⟩
    refine ⟨?_, h3, h2⟩
    by_cases q : x ∈ reachedBy p 1 []
    · exact q
    · exact absurd (List.contains_iff_mem.mp h2) (lost_off hw q)
  · rintro ⟨h1, h2, h3⟩
    exact ⟨⟨reached_lt h1, h3⟩, h2⟩
theorem find_congr {α : Type} {f g : α → Bool} : ∀ {l : List α}, (∀ x ∈ l, f x = g x) → l.find? f = l.find? g
  | [], _ => rfl
  | a :: l, h => by
    rw [List.find?_cons, List.find?_cons, h a (List.mem_cons_self ..), find_congr fun x hx => h x (List.mem_cons_of_mem _ hx)]
theorem closest_eq {p : Prog} (hw : Wfp p) (k : Nat) : closest p k = (holders p k).find? fun h => (holders p k).all fun o => (lost p 1 [o]).contains h := by
  unfold closest
  dsimp only
  rw [above_eq hw]
  refine find_congr fun x hx => ?_
  have hx1 := reached_lt (List.mem_filter.mp hx).1
  rw [Bool.eq_iff_iff, List.all_eq_true, List.all_eq_true]
  refine forall_congr' fun y => forall_congr' fun hy => ?_
  have hy1 := reached_lt (List.mem_filter.mp hy).1
  unfold above
  rw [List.contains_iff_mem, List.mem_filter, List.mem_range]
  exact ⟨fun h => h.2, fun h => ⟨hy1, h⟩⟩
/-! ### the chains -/
theorem chainIn_eq (p : Prog) (t : Next) (goal : Nat) : chainIn p t goal = (found p.parts.length t p.starts []).find? fun c => c.getLast? == some goal := by
  unfold chainIn found
  have e : ents p.starts [] = p.starts := by
    unfold ents
    rw [List.filter_eq_self]
    exact fun _ _ => rfl
  rw [e]
  have e2 : t.map (rowOff []) = t := by
    have : rowOff [] = fun r => r := by
      funext r
      unfold rowOff
      rw [List.filter_eq_self]
      exact fun _ _ => rfl
    rw [this]
    exact List.map_id'' (fun _ => rfl) t
  rw [← chainBy_eq, e2]
theorem around_eq (p : Prog) (k goal : Nat) : Vakepb.around p k goal = (found p.parts.length (nextAny p) p.starts [k]).find? fun c => c.getLast? == some goal := by
  unfold Vakepb.around chainIn found
  have e : p.starts.filter (fun e => e != k) = ents p.starts [k] := by
    unfold ents
    refine List.filter_congr fun x _ => ?_
    rw [List.contains_cons]
    simp [bne]
  have e2 : (nextAny p).map (fun l => l.filter fun x => x != k) = (nextAny p).map (rowOff [k]) := by
    congr 1
    funext l
    unfold rowOff
    refine List.filter_congr fun x _ => ?_
    rw [List.contains_cons]
    simp [bne]
  rw [e, e2]
  exact chainBy_eq _ _ _ _ _ _
/-- a round of the looking for the first assignment with the shortest chain -/
def bestStep (b : Option (Nat × List Nat)) (a : Nat) (c : Option (List Nat)) : Option (Nat × List Nat) := match c, b with
  | none, b => b
  | some c, none => some (a, c)
  | some c, some x => if c.length < x.2.length then some (a, c) else some x
theorem chainOf_eq (p : Prog) (m goal : Nat) : chainOf p m goal = ((tables p m).zipIdx).foldl (fun b t => bestStep b t.2 ((found p.parts.length t.1 p.starts []).find? fun c => c.getLast? == some goal)) none := by
  unfold chainOf
  congr 1
  funext b t
  rw [← chainIn_eq]
  rfl
/-! ### the heaviest -/
abbrev wt (p : Prog) (m k : Nat) : Nat := Vakepa.sizeOf_ p (lost p m [k])
/-- the order in which heavy tells -/
def hvLt (f : Nat → Nat) (a b : Nat) : Prop := f b < f a ∨ (f a = f b ∧ a < b)
def insW (r : List (Nat × Nat)) (x : Nat × Nat) : List (Nat × Nat) := (r.takeWhile fun y => decide (x.2 ≤ y.2)) ++ (x :: r.dropWhile fun y => decide (x.2 ≤ y.2))
theorem ins_ok {f : Nat → Nat} {x : Nat} : ∀ {r : List (Nat × Nat)}, (∀ y ∈ r, y.2 = f y.1 ∧ y.1 < x) → (r.map (·.1)).Pairwise (hvLt f) →
    (insW r (x, f x)).Perm (r ++ [(x, f x)]) ∧ ((insW r (x, f x)).map (·.1)).Pairwise (hvLt f)
  | [], _, _ => ⟨List.Perm.refl _, List.pairwise_singleton _ _⟩
  | y :: r, h, s => by
    unfold insW
    rw [List.map_cons, List.pairwise_cons] at s
    have hy := h y (List.mem_cons_self ..)
    by_cases q : f x ≤ y.2
    · rw [List.takeWhile_cons, List.dropWhile_cons, if_pos (decide_eq_true q), if_pos (decide_eq_true q)]
      obtain ⟨i1, i2⟩ := ins_ok (x := x) (r := r) (fun z hz => h z (List.mem_cons_of_mem _ hz)) s.2
      unfold insW at i1 i2
      refine ⟨List.Perm.cons _ i1, ?_⟩
      rw [List.cons_append, List.map_cons, List.pairwise_cons]
      refine ⟨fun z hz => ?_, i2⟩
      have : z ∈ (r ++ [(x, f x)]).map (·.1) := (i1.map _).mem_iff.mp hz
      rw [List.map_append, List.map_cons, List.map_nil] at this
      rcases List.mem_append.mp this with z1 | z1
      · exact s.1 z z1
      · rw [List.mem_singleton.mp z1]
        rcases Nat.lt_or_eq_of_le q with q | q
        · exact .inl (by rw [← hy.1]; exact q)
        · exact .inr ⟨by rw [← hy.1, q], hy.2⟩
    · rw [List.takeWhile_cons, List.dropWhile_cons, if_neg (by simpa using q), if_neg (by simpa using q)]
      refine ⟨(List.perm_append_singleton (x, f x) (y :: r)).symm, ?_⟩
      rw [List.nil_append, List.map_cons, List.pairwise_cons]
      refine ⟨fun z hz => ?_, by rw [List.map_cons, List.pairwise_cons]; exact s⟩
      have q' : y.2 < f x := Nat.lt_of_not_le q
      rw [List.map_cons] at hz
      rcases List.mem_cons.mp hz with rfl | hz
      · exact .inl (by rw [← hy.1]; exact q')
      · refine .inl ?_
        rcases s.1 z hz with w | w
        · rw [hy.1] at q'
          exact Nat.lt_trans w q'
        · rw [hy.1, w.1] at q'
          exact q'
theorem heavier_ok (p : Prog) (m : Nat) : (heavier p m).Perm ((reachedBy p m []).map fun k => (k, wt p m k)) ∧ ((heavier p m).map (·.1)).Pairwise (hvLt (wt p m)) := by
  unfold heavier
  dsimp only
  have key : ∀ (l : List Nat) (r : List (Nat × Nat)), l.Pairwise (· < ·) → (∀ y ∈ r, y.2 = wt p m y.1 ∧ ∀ x ∈ l, y.1 < x) → (r.map (·.1)).Pairwise (hvLt (wt p m)) →
      ((l.map fun k => (k, wt p m k)).foldl insW r).Perm (r ++ l.map fun k => (k, wt p m k)) ∧ (((l.map fun k => (k, wt p m k)).foldl insW r).map (·.1)).Pairwise (hvLt (wt p m)) := by
    intro l
    induction l with
    | nil =>
      intro r _ _ s
      refine ⟨?_, s⟩
      rw [List.map_nil, List.append_nil]
      exact List.Perm.refl _
    | cons x l ih =>
      intro r hl hr s
      rw [List.pairwise_cons] at hl
      rw [List.map_cons, List.foldl_cons]
      obtain ⟨i1, i2⟩ := ins_ok (f := wt p m) (x := x) (r := r) (fun y hy => ⟨(hr y hy).1, (hr y hy).2 x (List.mem_cons_self ..)⟩) s
      obtain ⟨j1, j2⟩ := ih (insW r (x, wt p m x)) hl.2 (fun y hy => by
        rcases List.mem_append.mp (i1.mem_iff.mp hy) with z | z
        · exact ⟨(hr y z).1, fun w hw => (hr y z).2 w (List.mem_cons_of_mem _ hw)⟩
        · rw [List.mem_singleton] at z
          subst z
          exact ⟨rfl, hl.1⟩) i2
      refine ⟨j1.trans ?_, j2⟩
      have := List.Perm.append_right (l.map fun k => (k, wt p m k)) i1
      rw [List.append_assoc] at this
      exact this
  have := key (reachedBy p m []) [] (asc_reached p m []) (fun y hy => nomatch hy) List.Pairwise.nil
  rw [List.nil_append] at this
  exact this
theorem hvLt_asymm {f : Nat → Nat} {a b : Nat} (h1 : hvLt f a b) (h2 : hvLt f b a) : a = b := by
  rcases h1 with h1 | h1 <;> rcases h2 with h2 | h2 <;> omega
/-- any arrangement in this order is the one -/
theorem heavier_is {p : Prog} {m : Nat} {l : List Nat} (h1 : l.Perm (reachedBy p m [])) (h2 : l.Pairwise (hvLt (wt p m))) : heavier p m = l.map fun k => (k, wt p m k) := by
  obtain ⟨a, b⟩ := heavier_ok p m
  have e : (heavier p m).map (·.1) = l := by
    refine List.Perm.eq_of_pairwise (le := hvLt (wt p m)) (fun _ _ _ _ => hvLt_asymm) b h2 ((a.map _).trans ?_)
    rw [List.map_map]
    have : (reachedBy p m []).map (Prod.fst ∘ fun k => (k, wt p m k)) = reachedBy p m [] := by
      show (reachedBy p m []).map (fun k => k) = _
      exact List.map_id'' (fun _ => rfl) _
    rw [this]
    exact h1.symm
  rw [← e, List.map_map]
  refine (List.map_id'' (fun _ => rfl) (heavier p m)).symm.trans (List.map_congr_left fun y hy => ?_)
  have := a.mem_iff.mp hy
  obtain ⟨k, _, rfl⟩ := List.mem_map.mp this
  rfl
end Vf

set_option linter.all false
set_option maxHeartbeats 2000000
/-! A run, statement by statement. -/
namespace Vf
open VakepBase
open Vakepa (Prog Stmt Run Values bodyOf mark partNamed madeName)
section
variable {p : Prog} {out : List Nat} {v : Values}
theorem big_n {f d : Nat} {st : Stmt} {s : Big} (hn : s.n ≤ 100) (hf : 101 < f + s.n) : s.n ≤ (big p out v f d st s).n ∧ (big p out v f d st s).n ≤ 100 := by
  by_cases h : s.fin = 0
  · obtain ⟨e, n, fi⟩ := s
    have h : fi = 0 := h
    subst h
    obtain ⟨_, _, _, _, h3, h4⟩ := big_toEnd (p := p) (out := out) (v := v) f d st [] [] e n hn hf
    exact ⟨h3, h4⟩
  · rw [big_fin h]
    exact ⟨Nat.le_refl _, hn⟩
theorem gate_congr {s : Big} {k1 k2 : Big → Big} (h : s.fin = 0 → s.n < 100 → k1 { s with n := s.n + 1 } = k2 { s with n := s.n + 1 }) : gate s k1 = gate s k2 := by
  unfold gate
  split
  · rfl
  · rename_i h1
    split
    · rfl
    · rename_i h2
      exact h (Decidable.of_not_not h1) (Nat.lt_of_not_le h2)
theorem enter_congr {k d : Nat} {b1 b2 : Big → Big} {s : Big} (h : b1 { s with ent := mark k s.ent } = b2 { s with ent := mark k s.ent }) : bigEnter k d b1 s = bigEnter k d b2 s := by
  unfold bigEnter
  rw [h]
theorem enter_n {k d f : Nat} {st : Stmt} {s : Big} (hn : s.n ≤ 100) (hf : 101 < f + s.n) : s.n ≤ (bigEnter k d (big p out v f (d + 1) st) s).n ∧ (bigEnter k d (big p out v f (d + 1) st) s).n ≤ 100 := by
  unfold bigEnter
  split
  · exact ⟨Nat.le_refl _, hn⟩
  · exact big_n (s := { s with ent := mark k s.ent }) hn hf
theorem big_fuel : ∀ (f g d : Nat) (st : Stmt) (s : Big), s.n ≤ 100 → 101 < f + s.n → 101 < g + s.n → big p out v f d st s = big p out v g d st s
  | 0, _, _, _, s, h, h1, _ => by omega
  | _ + 1, 0, _, _, s, h, _, h2 => by omega
  | f + 1, g + 1, d, .done, s, _, _, _ => rfl
  | f + 1, g + 1, d, .say k r, s, hn, h1, h2 => gate_congr fun _ hl => big_fuel f g d r _ (by show s.n + 1 ≤ 100; omega) (by show 101 < f + (s.n + 1); omega) (by show 101 < g + (s.n + 1); omega)
  | f + 1, g + 1, d, .call k r, s, hn, h1, h2 => gate_congr fun _ hl => by
      have a1 : s.n + 1 ≤ 100 := hl
      have a2 : 101 < f + (s.n + 1) := by omega
      have a3 : 101 < g + (s.n + 1) := by omega
      show big p out v f d r (if out.contains k = true then _ else _) = big p out v g d r (if out.contains k = true then _ else _)
      by_cases ho : out.contains k = true
      · rw [if_pos ho, if_pos ho]
        exact big_fuel f g d r _ a1 a2 a3
      · rw [if_neg ho, if_neg ho]
        have e : bigEnter k d (big p out v f (d + 1) (bodyOf p k)) { s with n := s.n + 1 } = bigEnter k d (big p out v g (d + 1) (bodyOf p k)) { s with n := s.n + 1 } := enter_congr (big_fuel f g (d + 1) (bodyOf p k) _ a1 a2 a3)
        rw [← e]
        have m := enter_n (p := p) (out := out) (v := v) (k := k) (d := d) (f := f) (st := bodyOf p k) (s := { s with n := s.n + 1 }) a1 a2
        have m1 : s.n + 1 ≤ (bigEnter k d (big p out v f (d + 1) (bodyOf p k)) { s with n := s.n + 1 }).n := m.1
        exact big_fuel f g d r _ m.2 (by omega) (by omega)
  | f + 1, g + 1, d, .make ps r, s, hn, h1, h2 => gate_congr fun _ hl => by
      have a1 : s.n + 1 ≤ 100 := hl
      have a2 : 101 < f + (s.n + 1) := by omega
      have a3 : 101 < g + (s.n + 1) := by omega
      cases partNamed p (madeName p v ps) with
      | none => exact big_fuel f g d r _ a1 a2 a3
      | some k =>
        dsimp only
        by_cases ho : out.contains k = true
        · rw [if_pos ho, if_pos ho]
          exact big_fuel f g d r _ a1 a2 a3
        · rw [if_neg ho, if_neg ho]
          have e : bigEnter k d (big p out v f (d + 1) (bodyOf p k)) { s with n := s.n + 1 } = bigEnter k d (big p out v g (d + 1) (bodyOf p k)) { s with n := s.n + 1 } := enter_congr (big_fuel f g (d + 1) (bodyOf p k) _ a1 a2 a3)
          rw [← e]
          have m := enter_n (p := p) (out := out) (v := v) (k := k) (d := d) (f := f) (st := bodyOf p k) (s := { s with n := s.n + 1 }) a1 a2
          have m1 : s.n + 1 ≤ (bigEnter k d (big p out v f (d + 1) (bodyOf p k)) { s with n := s.n + 1 }).n := m.1
          exact big_fuel f g d r _ m.2 (by omega) (by omega)
  | f + 1, g + 1, d, .when_ x w c r, s, hn, h1, h2 => gate_congr fun _ hl => by
      have a1 : s.n + 1 ≤ 100 := hl
      have a2 : 101 < f + (s.n + 1) := by omega
      have a3 : 101 < g + (s.n + 1) := by omega
      by_cases hw : v.getD x 0 = w
      · rw [if_pos hw, if_pos hw, ← big_fuel f g d c _ a1 a2 a3]
        have m := big_n (p := p) (out := out) (v := v) (d := d) (st := c) (f := f) (s := { s with n := s.n + 1 }) a1 a2
        have m1 : s.n + 1 ≤ (big p out v f d c { s with n := s.n + 1 }).n := m.1
        exact big_fuel f g d r _ m.2 (by omega) (by omega)
      · rw [if_neg hw, if_neg hw]
        exact big_fuel f g d r _ a1 a2 a3
/-- statements done, at a depth -/
def bigC (p : Prog) (out : List Nat) (v : Values) (d : Nat) (st : Stmt) (s : Big) : Big := big p out v 102 d st s
/-- a part entered where so many are around it -/
def enterW (p : Prog) (out : List Nat) (v : Values) (wi k : Nat) (s : Big) : Big := if 9 ≤ wi then { ent := mark k s.ent, n := s.n, fin := 1 } else bigC p out v wi (bodyOf p k) { s with ent := mark k s.ent }
/-- a part called -/
def callW (p : Prog) (out : List Nat) (v : Values) (wi k : Nat) (s : Big) : Big := if out.contains k = true then { s with fin := 3 } else enterW p out v wi k s
def makeW (p : Prog) (out : List Nat) (v : Values) (wi : Nat) (o : Option Nat) (s : Big) : Big := match o with
  | none => s
  | some k => if out.contains k = true then s else enterW p out v wi k s
/-- what the first statement does -/
def oneS (p : Prog) (out : List Nat) (v : Values) (d : Nat) : Stmt → Big → Big
  | .done, u => u
  | .say _ _, u => u
  | .call k _, u => callW p out v (d + 1) k u
  | .make ps _, u => makeW p out v (d + 1) (partNamed p (madeName p v ps)) u
  | .when_ x w c _, u => if v.getD x 0 = w then bigC p out v d c u else u
def restS : Stmt → Stmt
  | .done => .done
  | .say _ r => r
  | .call _ r => r
  | .make _ r => r
  | .when_ _ _ _ r => r
theorem enter_W {k d : Nat} {u : Big} (hn : u.n ≤ 100) (f : Nat) (hf : 101 < f + u.n) : bigEnter k d (big p out v f (d + 1) (bodyOf p k)) u = enterW p out v (d + 1) k u := by
  unfold bigEnter enterW bigC
  by_cases h : 8 ≤ d
  · rw [if_pos h, if_pos (by omega)]
  · rw [if_neg h, if_neg (by omega)]
    exact big_fuel f 102 (d + 1) (bodyOf p k) { u with ent := mark k u.ent } hn hf (by omega)
theorem enterW_n {wi k : Nat} {u : Big} (hn : u.n ≤ 100) : u.n ≤ (enterW p out v wi k u).n ∧ (enterW p out v wi k u).n ≤ 100 := by
  unfold enterW bigC
  split
  · exact ⟨Nat.le_refl _, hn⟩
  · exact big_n (s := { u with ent := mark k u.ent }) hn (by omega)
theorem oneS_n {d : Nat} {st : Stmt} {u : Big} (hn : u.n ≤ 100) : u.n ≤ (oneS p out v d st u).n ∧ (oneS p out v d st u).n ≤ 100 := by
  cases st with
  | done => exact ⟨Nat.le_refl _, hn⟩
  | say _ _ => exact ⟨Nat.le_refl _, hn⟩
  | call k r =>
    show u.n ≤ (callW p out v (d + 1) k u).n ∧ (callW p out v (d + 1) k u).n ≤ 100
    unfold callW
    split
    · exact ⟨Nat.le_refl _, hn⟩
    · exact enterW_n hn
  | make ps r =>
    show u.n ≤ (makeW p out v (d + 1) _ u).n ∧ (makeW p out v (d + 1) _ u).n ≤ 100
    unfold makeW
    split
    · exact ⟨Nat.le_refl _, hn⟩
    · split
      · exact ⟨Nat.le_refl _, hn⟩
      · exact enterW_n hn
  | when_ x w c r =>
    show u.n ≤ (if v.getD x 0 = w then bigC p out v d c u else u).n ∧ (if v.getD x 0 = w then bigC p out v d c u else u).n ≤ 100
    split
    · exact big_n hn (by omega)
    · exact ⟨Nat.le_refl _, hn⟩
theorem bigC_done {d : Nat} {s : Big} : bigC p out v d .done s = s := rfl
theorem bigC_one {d : Nat} {st : Stmt} {s : Big} (hne : st ≠ .done) (hn : s.n ≤ 100) : bigC p out v d st s = gate s fun u => bigC p out v d (restS st) (oneS p out v d st u) := by
  have rest : ∀ (r : Stmt) (u w : Big), s.n < 100 → u = w → s.n + 1 ≤ w.n → w.n ≤ 100 → big p out v 101 d r u = big p out v 102 d r w := fun r u w hl e h1 h2 => by
    subst e
    exact big_fuel 101 102 d r u h2 (by omega) (by omega)
  unfold bigC
  cases st with
  | done => exact absurd rfl hne
  | say k r => exact gate_congr fun _ hl => rest r _ _ hl rfl (Nat.le_refl _) hl
  | call k r =>
    refine gate_congr fun _ hl => ?_
    have m := oneS_n (p := p) (out := out) (v := v) (d := d) (st := .call k r) (u := { s with n := s.n + 1 }) hl
    refine rest r _ _ hl ?_ m.1 m.2
    show (if _ then _ else _) = callW p out v (d + 1) k _
    unfold callW
    rw [enter_W (u := { s with n := s.n + 1 }) hl 101 (by show 101 < 101 + (s.n + 1); omega)]
  | make ps r =>
    refine gate_congr fun _ hl => ?_
    have m := oneS_n (p := p) (out := out) (v := v) (d := d) (st := .make ps r) (u := { s with n := s.n + 1 }) hl
    refine rest r _ _ hl ?_ m.1 m.2
    show _ = makeW p out v (d + 1) _ _
    unfold makeW
    cases partNamed p (madeName p v ps) with
    | none => rfl
    | some k =>
      dsimp only
      rw [enter_W (u := { s with n := s.n + 1 }) hl 101 (by show 101 < 101 + (s.n + 1); omega)]
  | when_ x w c r =>
    refine gate_congr fun _ hl => ?_
    have m := oneS_n (p := p) (out := out) (v := v) (d := d) (st := .when_ x w c r) (u := { s with n := s.n + 1 }) hl
    refine rest r _ _ hl ?_ m.1 m.2
    show (if _ then _ else _) = (if _ then _ else _)
    split
    · exact big_fuel 101 102 d c _ hl (by show 101 < 101 + (s.n + 1); omega) (by omega)
    · rfl
theorem bigC_fin {d : Nat} {st : Stmt} {s : Big} (h : s.fin ≠ 0) : bigC p out v d st s = s := big_fin h
theorem bigC_n {d : Nat} {st : Stmt} {s : Big} (h : s.n ≤ 100) : (bigC p out v d st s).n ≤ 100 := (big_n h (by omega)).2
/-- what a run from an entry enters, parts E being entered before -/
theorem run_enters {e k : Nat} {E : List Nat} : k ∈ (callW p out v 0 e ⟨E, 0, 0⟩).ent ↔ k ∈ E ∨ k ∈ (Vakepa.run p out e v).entered := by
  rw [run_entered]
  unfold callW
  split
  · exact ⟨.inl, fun z => z.elim id fun z => nomatch z⟩
  · unfold enterW
    rw [if_neg (by decide)]
    exact big_ent k
/-- parts entered are parts, each told once -/
def EntOk (p : Prog) (l : List Nat) : Prop := l.Nodup ∧ ∀ k ∈ l, k < p.parts.length
theorem EntOk.mark {l : List Nat} (h : EntOk p l) {k : Nat} (hk : k < p.parts.length) : EntOk p (mark k l) := by
  unfold Vakepa.mark
  split
  · exact h
  · rename_i hn
    refine ⟨?_, fun j hj => ?_⟩
    · rw [List.nodup_append]
      refine ⟨h.1, by simp, fun a ha b hb e => ?_⟩
      rw [List.mem_singleton] at hb
      subst hb
      subst e
      exact hn (List.contains_iff_mem.mpr ha)
    · rcases List.mem_append.mp hj with hj | hj
      · exact h.2 j hj
      · rw [List.mem_singleton.mp hj]
        exact hk
end
end Vf

set_option linter.all false
set_option maxHeartbeats 2000000
/-! The names that a body tells, and the tables. -/
namespace Vf
open VakepBase
open Vakepa (Prog Stmt Values bodyOf mark partNamed madeName nameOf valuesOf total callsBy callsAny madeAny assignments inOrder)
open Vakepb (Next nextBy nextAny tidy)
/-- names that calls and makes mean; any: in any when -/
def namesIn (p : Prog) (v : Values) (any : Bool) : Stmt → List Bytes
  | .done => []
  | .say _ r => namesIn p v any r
  | .call k r => nameOf p k :: namesIn p v any r
  | .make ps r => madeName p v ps :: namesIn p v any r
  | .when_ x w b r => (if any = true ∨ v.getD x 0 = w then namesIn p v any b else []) ++ namesIn p v any r
section
variable {p : Prog} (hw : Wfp p)
include hw
theorem named_eq {b : Bytes} {j : Nat} (hj : j < p.parts.length) : nameOf p j = b ↔ partNamed p b = some j := by
  have hb : (p.parts.map fun x => x.name)[j]? = some (nameOf p j) := by
    unfold nameOf
    rw [List.getElem?_map, List.getElem?_eq_getElem hj] <;> rfl
  constructor
  · rintro rfl
    have := find_nodup hw.pn hb
    rw [List.findIdx?_map] at this
    exact this
  · intro h
    obtain ⟨h1, h2, _⟩ := List.findIdx?_eq_some_iff_getElem.mp h
    unfold nameOf
    rw [List.getElem?_eq_getElem h1]
    exact eq_of_beq h2
theorem name_inj {j k : Nat} (hj : j < p.parts.length) (hk : k < p.parts.length) : nameOf p j = nameOf p k ↔ j = k := by
  constructor
  · intro h
    have h1 := (named_eq hw hj).mp h
    have h2 := (named_eq hw hk).mp rfl
    rw [h1] at h2
    exact Option.some.inj h2
  · intro h
    rw [h]
theorem by_names {v : Values} {j : Nat} (hj : j < p.parts.length) : ∀ {q : Nat} {st : Stmt}, SGood p.sets p.parts.length q st → (nameOf p j ∈ namesIn p v false st ↔ j ∈ callsBy p v st)
  | _, .done, _ => ⟨(fun z => nomatch z), (fun z => nomatch z)⟩
  | q, .say k r, g => by
    have ih := by_names (v := v) hj (q := q) (st := r) g.2
    rw [namesIn, callsBy]
    exact ih
  | _, .call k r, g => by
    rw [namesIn, callsBy, List.mem_cons, List.mem_cons, name_inj hw hj g.1, by_names hj g.2]
  | _, .make ps r, g => by
    rw [namesIn, callsBy, List.mem_cons, List.mem_append, named_eq hw hj, by_names hj g.2.2, Option.mem_toList]
  | _, .when_ x w b r, g => by
    rw [namesIn, callsBy, List.mem_append, List.mem_append, by_names hj g.2.2.2]
    have : (if false = true ∨ v.getD x 0 = w then namesIn p v false b else []) = if v.getD x 0 = w then namesIn p v false b else [] := by
      by_cases h : v.getD x 0 = w
      · rw [if_pos (.inr h), if_pos h]
      · rw [if_neg (fun z => z.elim (fun z => by cases z) h), if_neg h]
    rw [this]
    by_cases h : v.getD x 0 = w
    · rw [if_pos h, if_pos h, by_names hj g.2.2.1]
    · rw [if_neg h, if_neg h]
      exact ⟨fun z => z.elim (fun z => nomatch z) .inr, fun z => z.elim (fun z => nomatch z) .inr⟩
theorem any_names (ht : 1 ≤ total p) {j : Nat} (hj : j < p.parts.length) : ∀ {q : Nat} {st : Stmt}, SGood p.sets p.parts.length q st → ((∃ a, a < total p ∧ nameOf p j ∈ namesIn p (valuesOf p a) true st) ↔ j ∈ callsAny p st)
  | _, .done, _ => ⟨(fun ⟨_, _, z⟩ => nomatch z), (fun z => nomatch z)⟩
  | q, .say k r, g => by
    have ih := any_names ht hj (q := q) (st := r) g.2
    rw [callsAny, ← ih]
    rfl
  | _, .call k r, g => by
    have ih := any_names ht hj g.2
    rw [callsAny, List.mem_cons, ← ih]
    constructor
    · rintro ⟨a, ha, z⟩
      rw [namesIn, List.mem_cons, name_inj hw hj g.1] at z
      exact z.imp id fun z => ⟨a, ha, z⟩
    · rintro (z | ⟨a, ha, z⟩)
      · exact ⟨0, ht, by rw [namesIn, List.mem_cons, name_inj hw hj g.1]; exact .inl z⟩
      · exact ⟨a, ha, by rw [namesIn, List.mem_cons]; exact .inr z⟩
  | _, .make ps r, g => by
    have ih := any_names ht hj g.2.2
    rw [callsAny, List.mem_append, ← ih]
    unfold madeAny assignments
    rw [List.mem_filterMap]
    constructor
    · rintro ⟨a, ha, z⟩
      rw [namesIn, List.mem_cons, named_eq hw hj] at z
      exact z.imp (fun z => ⟨a, List.mem_range.mpr ha, z⟩) fun z => ⟨a, ha, z⟩
    · rintro (⟨a, ha, z⟩ | ⟨a, ha, z⟩)
      · exact ⟨a, List.mem_range.mp ha, by rw [namesIn, List.mem_cons, named_eq hw hj]; exact .inl z⟩
      · exact ⟨a, ha, by rw [namesIn, List.mem_cons]; exact .inr z⟩
  | _, .when_ x w b r, g => by
    have i1 := any_names ht hj g.2.2.1
    have i2 := any_names ht hj g.2.2.2
    rw [callsAny, List.mem_append, ← i1, ← i2]
    have e : ∀ a, nameOf p j ∈ namesIn p (valuesOf p a) true (.when_ x w b r) ↔ nameOf p j ∈ namesIn p (valuesOf p a) true b ∨ nameOf p j ∈ namesIn p (valuesOf p a) true r := fun a => by
      rw [namesIn, List.mem_append, if_pos (.inl rfl)]
    constructor
    · rintro ⟨a, ha, z⟩
      exact ((e a).mp z).imp (fun z => ⟨a, ha, z⟩) fun z => ⟨a, ha, z⟩
    · rintro (⟨a, ha, z⟩ | ⟨a, ha, z⟩)
      · exact ⟨a, ha, (e a).mpr (.inl z)⟩
      · exact ⟨a, ha, (e a).mpr (.inr z)⟩
end
/-- the names told for some assignments -/
def namesAll (p : Prog) (as : List Nat) (any : Bool) (st : Stmt) : List Bytes := as.flatMap fun a => namesIn p (valuesOf p a) any st
/-- one row, as the program makes it -/
def rowOf (p : Prog) (ns : List Bytes) : List Nat := (List.range p.parts.length).filter fun j => decide (nameOf p j ∈ ns)
theorem rowOf_same {p : Prog} {ns ms : List Bytes} (h : ∀ b, b ∈ ns ↔ b ∈ ms) : rowOf p ns = rowOf p ms := by
  unfold rowOf
  refine List.filter_congr fun j _ => ?_
  rw [Bool.eq_iff_iff, decide_eq_true_eq, decide_eq_true_eq]
  exact h _
def rowsOf (p : Prog) (as : List Nat) (any : Bool) : Next := p.parts.map fun x => rowOf p (namesAll p as any x.body)
theorem map_range {α : Type} (p : Prog) (f : Vakepa.Part → α) (g : Nat → α) (h : ∀ (k : Nat) (x : Vakepa.Part), p.parts[k]? = some x → f x = g k) : p.parts.map f = (List.range p.parts.length).map g := by
  apply List.ext_getElem?
  intro k
  rw [List.getElem?_map, List.getElem?_map]
  cases e : p.parts[k]? with
  | none =>
    rw [List.getElem?_eq_none (by rw [List.length_range]; exact List.getElem?_eq_none_iff.mp e)] <;> rfl
  | some x =>
    have hk := (List.getElem?_eq_some_iff.mp e).1
    rw [List.getElem?_eq_getElem (by rw [List.length_range]; exact hk), List.getElem_range]
    show some (f x) = some (g k)
    rw [h k x e]
theorem body_at {p : Prog} {k : Nat} {x : Vakepa.Part} (h : p.parts[k]? = some x) : bodyOf p k = x.body := by
  unfold bodyOf
  rw [h] <;> rfl
theorem rows_one {p : Prog} (hw : Wfp p) (a : Nat) : rowsOf p [a] false = nextBy p a := by
  unfold rowsOf nextBy
  refine map_range p _ _ fun k x h => ?_
  rw [body_at h]
  unfold rowOf tidy inOrder namesAll
  refine List.filter_congr fun j hj => ?_
  have hj' := List.mem_range.mp hj
  rw [Bool.eq_iff_iff, decide_eq_true_eq, List.contains_iff_mem, List.flatMap_cons, List.flatMap_nil, List.append_nil]
  exact by_names hw hj' (hw.pg x (List.mem_of_getElem? h)).2.2.2.1
theorem rows_all {p : Prog} (hw : Wfp p) (ht : 1 ≤ total p) : rowsOf p (List.range (total p)) true = nextAny p := by
  unfold rowsOf nextAny
  refine map_range p _ _ fun k x h => ?_
  rw [body_at h]
  unfold rowOf tidy inOrder namesAll
  refine List.filter_congr fun j hj => ?_
  have hj' := List.mem_range.mp hj
  rw [Bool.eq_iff_iff, decide_eq_true_eq, List.contains_iff_mem, List.mem_flatMap, ← any_names hw ht hj' (hw.pg x (List.mem_of_getElem? h)).2.2.2.1]
  exact ⟨fun ⟨a, ha, z⟩ => ⟨a, List.mem_range.mp ha, z⟩, fun ⟨a, ha, z⟩ => ⟨a, List.mem_range.mpr ha, z⟩⟩
end Vf

set_option linter.all false
set_option maxHeartbeats 2000000
/-! The one form, in pieces. -/
namespace Vf
open VakepBase
open Vakepa (Prog Stmt nameOf showPiece showStmt commas line)
def valT (p : Prog) (x v : Nat) : Bytes := ((p.sets[x]?).bind fun s => s.values[v]?).getD []
def brackets (p : Prog) (b : Stmt) : Bytes := word "{" ++ (word " " ++ showStmt p b)
/-- the first statement alone -/
def formOf (p : Prog) : Stmt → Bytes
  | .done => []
  | .say k _ => word "say " ++ (showNat k ++ word " ;")
  | .call k _ => word "call " ++ (nameOf p k ++ word " ;")
  | .make ps _ => word "make " ++ (joined (word " + ") (ps.map (showPiece p)) ++ word " ;")
  | .when_ x v b _ => word "when " ++ (showPiece p (.set x) ++ (word " is " ++ (valT p x v ++ (word " " ++ brackets p b))))
def forms (p : Prog) : Stmt → List Bytes
  | .done => []
  | .say k r => formOf p (.say k r) :: forms p r
  | .call k r => formOf p (.call k r) :: forms p r
  | .make ps r => formOf p (.make ps r) :: forms p r
  | .when_ x v b r => formOf p (.when_ x v b r) :: forms p r
theorem joined_cons (sep x : Bytes) {l : List Bytes} (h : l ≠ []) : joined sep (x :: l) = x ++ (sep ++ joined sep l) := by
  cases l with
  | nil => exact absurd rfl h
  | cons y r =>
    show x ++ sep ++ joined sep (y :: r) = _
    rw [List.append_assoc]
theorem app_ne {α : Type} {l : List α} {x : α} : l ++ [x] ≠ [] := by
  intro h
  have := congrArg List.length h
  rw [List.length_append] at this
  exact absurd this (Nat.succ_ne_zero _)
theorem semi_blank : word " ; " = word " ;" ++ word " " := by decide +kernel
theorem brace_blank : word " { " = word " " ++ (word "{" ++ word " ") := by decide +kernel
theorem forms_show (p : Prog) : ∀ st : Stmt, joined (word " ") (forms p st ++ [word "}"]) = showStmt p st
  | .done => rfl
  | .say k r => by
    show joined _ (formOf p (.say k r) :: (forms p r ++ [word "}"])) = word "say " ++ (showNat k ++ (word " ; " ++ showStmt p r))
    rw [joined_cons _ _ app_ne, forms_show p r, formOf, semi_blank]
    simp only [List.append_assoc]
  | .call k r => by
    show joined _ (formOf p (.call k r) :: (forms p r ++ [word "}"])) = word "call " ++ (nameOf p k ++ (word " ; " ++ showStmt p r))
    rw [joined_cons _ _ app_ne, forms_show p r, formOf, semi_blank]
    simp only [List.append_assoc]
  | .make ps r => by
    show joined _ (formOf p (.make ps r) :: (forms p r ++ [word "}"])) = word "make " ++ (joined (word " + ") (ps.map (showPiece p)) ++ (word " ; " ++ showStmt p r))
    rw [joined_cons _ _ app_ne, forms_show p r, formOf, semi_blank]
    simp only [List.append_assoc]
  | .when_ x v b r => by
    show joined _ (formOf p (.when_ x v b r) :: (forms p r ++ [word "}"])) = word "when " ++ (showPiece p (.set x) ++ (word " is " ++ (valT p x v ++ (word " { " ++ (showStmt p b ++ (word " " ++ showStmt p r))))))
    rw [joined_cons _ _ app_ne, forms_show p r, formOf, brace_blank, brackets]
    simp only [List.append_assoc]
theorem brackets_join (p : Prog) (st : Stmt) : joined (word " ") ([word "{"] ++ forms p st ++ [word "}"]) = brackets p st := by
  show joined _ (word "{" :: (forms p st ++ [word "}"])) = _
  rw [joined_cons _ _ app_ne, forms_show] <;> rfl
def settingText (s : Vakepa.Setting) : Bytes := word "set " ++ (s.name ++ (word " : " ++ (commas s.values ++ word " ;")))
def partText (p : Prog) (x : Vakepa.Part) : Bytes := word "part " ++ (x.name ++ (word " size " ++ (showNat x.size ++ (word " " ++ brackets p x.body))))
def startText (p : Prog) : Bytes := word "start " ++ (commas (p.starts.map (nameOf p)) ++ word " ;")
def rowsText (p : Prog) : List Bytes := p.sets.map settingText ++ (p.parts.map (partText p) ++ [startText p])
theorem shown_rows (p : Prog) : Vakepa.shown p = (rowsText p).flatMap line := by
  unfold Vakepa.shown rowsText
  rw [List.flatMap_append, List.flatMap_append, List.flatMap_map, List.flatMap_map, List.flatMap_cons, List.flatMap_nil, List.append_nil]
  congr 2
/-! ### how long they are -/
theorem nat_few : ∀ n : Nat, n ≤ 99 → (showNat n).length ≤ 2 := by
  have h : ((List.range 100).all fun n => decide ((showNat n).length ≤ 2)) = true := by decide +kernel
  intro n hn
  exact of_decide_eq_true (List.all_eq_true.mp h n (List.mem_range.mpr (by omega)))
theorem joined_len (sep : Bytes) (m : Nat) : ∀ l : List Bytes, (∀ b ∈ l, b.length ≤ m) → (joined sep l).length ≤ l.length * (m + sep.length)
  | [], _ => Nat.zero_le _
  | [x], h => by
    have := h x (List.mem_singleton.mpr rfl)
    show x.length ≤ 1 * (m + sep.length)
    omega
  | x :: y :: r, h => by
    have h1 := h x (List.mem_cons_self ..)
    have h2 := joined_len sep m (y :: r) fun b hb => h b (List.mem_cons_of_mem _ hb)
    rw [joined_cons sep x (by simp), List.length_append, List.length_append]
    have : (x :: y :: r).length * (m + sep.length) = (y :: r).length * (m + sep.length) + (m + sep.length) := by
      rw [List.length_cons (a := x), Nat.succ_mul]
    omega
section
variable {p : Prog} (hw : Wfp p)
include hw
theorem nameOf_len {k : Nat} : (nameOf p k).length ≤ 16 := by
  unfold nameOf
  cases e : p.parts[k]? with
  | none => exact Nat.zero_le _
  | some x => exact (hw.pg x (List.mem_of_getElem? e)).1
theorem piece_len16 {q : Vakepa.Piece} (hq : PieceOk p.sets q) : (showPiece p q).length ≤ 16 := by
  cases q with
  | set k =>
    show (((p.sets[k]?).map fun s => s.name).getD []).length ≤ 16
    cases e : p.sets[k]? with
    | none => exact Nat.zero_le _
    | some s => exact (hw.sg s (List.mem_of_getElem? e)).1
  | word b => exact hq.1
theorem valT_len {x v : Nat} : (valT p x v).length ≤ 16 := by
  unfold valT
  cases e : p.sets[x]? with
  | none => exact Nat.zero_le _
  | some s =>
    show ((s.values[v]?).getD []).length ≤ 16
    cases e2 : s.values[v]? with
    | none => exact Nat.zero_le _
    | some b => exact (hw.sg s (List.mem_of_getElem? e)).2.2.2.2 b (List.mem_of_getElem? e2)
theorem make_len {ps : List Vakepa.Piece} (h3 : ps.length ≤ 3) (hp : ∀ q ∈ ps, PieceOk p.sets q) : (joined (word " + ") (ps.map (showPiece p))).length ≤ 57 := by
  have := joined_len (word " + ") 16 (ps.map (showPiece p)) fun b hb => by
    obtain ⟨q, hq, rfl⟩ := List.mem_map.mp hb
    exact piece_len16 hw (hp q hq)
  rw [List.length_map] at this
  have e : (word " + ").length = 3 := by decide +kernel
  rw [e] at this
  have : ps.length * (16 + 3) ≤ 3 * 19 := Nat.mul_le_mul h3 (Nat.le_refl _)
  omega
theorem show_len : ∀ {q : Nat} {st : Stmt}, SGood p.sets p.parts.length q st → (showStmt p st).length ≤ 70 * scost st
  | _, .done, _ => by
    show (word "}").length ≤ 70 * 1
    decide +kernel
  | _, .say k r, g => by
    have h1 := show_len g.2
    have h2 := nat_few k g.1
    have e1 : (word "say ").length = 4 := by decide +kernel
    have e2 : (word " ; ").length = 3 := by decide +kernel
    show (word "say " ++ (showNat k ++ (word " ; " ++ showStmt p r))).length ≤ 70 * (3 + scost r)
    rw [List.length_append, List.length_append, List.length_append, e1, e2]
    omega
  | _, .call k r, g => by
    have h1 := show_len g.2
    have h2 := nameOf_len hw (k := k)
    have e1 : (word "call ").length = 5 := by decide +kernel
    have e2 : (word " ; ").length = 3 := by decide +kernel
    show (word "call " ++ (nameOf p k ++ (word " ; " ++ showStmt p r))).length ≤ 70 * (3 + scost r)
    rw [List.length_append, List.length_append, List.length_append, e1, e2]
    omega
  | _, .make ps r, g => by
    have h1 := show_len g.2.2
    have h2 := make_len hw g.1 g.2.1
    have e1 : (word "make ").length = 5 := by decide +kernel
    have e2 : (word " ; ").length = 3 := by decide +kernel
    show (word "make " ++ (joined (word " + ") (ps.map (showPiece p)) ++ (word " ; " ++ showStmt p r))).length ≤ 70 * (1 + 2 * ps.length + scost r)
    rw [List.length_append, List.length_append, List.length_append, e1, e2]
    omega
  | _, .when_ x v b r, g => by
    have h1 := show_len g.2.2.1
    have h2 := show_len g.2.2.2
    have h3 := valT_len hw (x := x) (v := v)
    have h4 : (showPiece p (.set x)).length ≤ 16 := by
      obtain ⟨⟨S, hS, _⟩, _⟩ := g
      show (((p.sets[x]?).map fun s => s.name).getD []).length ≤ 16
      rw [hS]
      exact (hw.sg S (List.mem_of_getElem? hS)).1
    have e1 : (word "when ").length = 5 := by decide +kernel
    have e2 : (word " is ").length = 4 := by decide +kernel
    have e3 : (word " { ").length = 3 := by decide +kernel
    have e4 : (word " ").length = 1 := by decide +kernel
    show (word "when " ++ (showPiece p (.set x) ++ (word " is " ++ (valT p x v ++ (word " { " ++ (showStmt p b ++ (word " " ++ showStmt p r))))))).length ≤ 70 * (5 + scost b + scost r)
    simp only [List.length_append, e1, e2, e3, e4]
    omega
end
end Vf

set_option Elab.async false
set_option linter.all false
set_option maxRecDepth 100000
set_option maxHeartbeats 4000000
/-! What the head told, fact by fact. Printed by gen_facts.py. -/
namespace Vf
open PySem PySem.Spec PyProof.Rows L2
/-- all that the top tells, for a written part K and the module's names mg -/
structure Tx (K : PySem.W.Frag) (mg : Str → Option Value) : Prop where
  d : He.SaysD fa fn K
  m : ex K = true
  h : ∃ h : Heap, K.In h ∧ h.Ns mainGlobals mg
variable {K : PySem.W.Frag} {mg : Str → Option Value}
theorem Tx.glo (T : Tx K mg) (i : Nat) {x : Str} (h : fa[i]? = some (.glo x)) : mg x = some (.ref (He.ga K x)) := by
  obtain ⟨h0, a, b⟩ := T.h
  exact He.glo_ok a b (T.d.fact i h)
theorem Tx.free (T : Tx K mg) (i : Nat) {x : Str} (h : fa[i]? = some (.free x)) : mg x = none := by
  obtain ⟨h0, a, b⟩ := T.h
  exact He.free_ok a b (T.d.fact i h)
theorem Tx.int (T : Tx K mg) (i : Nat) {x : Str} {n : Int} (h : fa[i]? = some (.int x n)) : ∃ u, mg x = some u ∧ RelV (.int n) u := by
  obtain ⟨h0, a, b⟩ := T.h
  obtain ⟨t, e⟩ := He.int_ok a b (T.d.fact i h)
  exact ⟨_, e, t, rfl⟩
theorem Tx.str (T : Tx K mg) (i : Nat) {x z : Str} (h : fa[i]? = some (.str x z)) : ∃ u, mg x = some u ∧ RelV (.str z) u := by
  obtain ⟨h0, a, b⟩ := T.h
  obtain ⟨t, e⟩ := He.str_ok a b (T.d.fact i h)
  exact ⟨_, e, t, rfl⟩

theorem g_choices_of (T : Tx K mg) : mg "choices_of" = some (.ref (He.ga K "choices_of")) := T.glo 0 rfl
theorem g_choice_of (T : Tx K mg) : mg "choice_of" = some (.ref (He.ga K "choice_of")) := T.glo 1 rfl
theorem g_made_name (T : Tx K mg) : mg "made_name" = some (.ref (He.ga K "made_name")) := T.glo 2 rfl
theorem g_holds (T : Tx K mg) : mg "holds" = some (.ref (He.ga K "holds")) := T.glo 3 rfl
theorem g_entered_by_runs (T : Tx K mg) : mg "entered_by_runs" = some (.ref (He.ga K "entered_by_runs")) := T.glo 4 rfl
theorem g_tables_of (T : Tx K mg) : mg "tables_of" = some (.ref (He.ga K "tables_of")) := T.glo 5 rfl
theorem g_table_of (T : Tx K mg) : mg "table_of" = some (.ref (He.ga K "table_of")) := T.glo 6 rfl
theorem g_tell_names (T : Tx K mg) : mg "tell_names" = some (.ref (He.ga K "tell_names")) := T.glo 7 rfl
theorem g_chains_by (T : Tx K mg) : mg "chains_by" = some (.ref (He.ga K "chains_by")) := T.glo 8 rfl
theorem g_closest_of_all (T : Tx K mg) : mg "closest_of_all" = some (.ref (He.ga K "closest_of_all")) := T.glo 9 rfl
theorem g_closest_among (T : Tx K mg) : mg "closest_among" = some (.ref (He.ga K "closest_among")) := T.glo 10 rfl
theorem g_tokens_of (T : Tx K mg) : mg "tokens_of" = some (.ref (He.ga K "tokens_of")) := T.glo 11 rfl
theorem g_as_text (T : Tx K mg) : mg "as_text" = some (.ref (He.ga K "as_text")) := T.glo 12 rfl
theorem g_behind_blanks (T : Tx K mg) : mg "behind_blanks" = some (.ref (He.ga K "behind_blanks")) := T.glo 13 rfl
theorem g_remark_end (T : Tx K mg) : mg "remark_end" = some (.ref (He.ga K "remark_end")) := T.glo 14 rfl
theorem g_token_at (T : Tx K mg) : mg "token_at" = some (.ref (He.ga K "token_at")) := T.glo 15 rfl
theorem g_number_at (T : Tx K mg) : mg "number_at" = some (.ref (He.ga K "number_at")) := T.glo 16 rfl
theorem g_name_at (T : Tx K mg) : mg "name_at" = some (.ref (He.ga K "name_at")) := T.glo 17 rfl
theorem g_run_end (T : Tx K mg) : mg "run_end" = some (.ref (He.ga K "run_end")) := T.glo 18 rfl
theorem g_read_program (T : Tx K mg) : mg "read_program" = some (.ref (He.ga K "read_program")) := T.glo 19 rfl
theorem g_check_room (T : Tx K mg) : mg "check_room" = some (.ref (He.ga K "check_room")) := T.glo 20 rfl
theorem g_check_known (T : Tx K mg) : mg "check_known" = some (.ref (He.ga K "check_known")) := T.glo 21 rfl
theorem g_one_form (T : Tx K mg) : mg "one_form" = some (.ref (He.ga K "one_form")) := T.glo 22 rfl
theorem g_setting_row (T : Tx K mg) : mg "setting_row" = some (.ref (He.ga K "setting_row")) := T.glo 23 rfl
theorem g_part_row (T : Tx K mg) : mg "part_row" = some (.ref (He.ga K "part_row")) := T.glo 24 rfl
theorem g_bracketed (T : Tx K mg) : mg "bracketed" = some (.ref (He.ga K "bracketed")) := T.glo 25 rfl
theorem g_statement_form (T : Tx K mg) : mg "statement_form" = some (.ref (He.ga K "statement_form")) := T.glo 26 rfl
theorem g_shown (T : Tx K mg) : mg "shown" = some (.ref (He.ga K "shown")) := T.glo 27 rfl
theorem g_chain (T : Tx K mg) : mg "chain" = some (.ref (He.ga K "chain")) := T.glo 28 rfl
theorem g_lost (T : Tx K mg) : mg "lost" = some (.ref (He.ga K "lost")) := T.glo 29 rfl
theorem g_tree (T : Tx K mg) : mg "tree" = some (.ref (He.ga K "tree")) := T.glo 30 rfl
theorem g_shares (T : Tx K mg) : mg "shares" = some (.ref (He.ga K "shares")) := T.glo 31 rfl
theorem g_around (T : Tx K mg) : mg "around" = some (.ref (He.ga K "around")) := T.glo 32 rfl
theorem g_both (T : Tx K mg) : mg "both" = some (.ref (He.ga K "both")) := T.glo 33 rfl
theorem g_heavy (T : Tx K mg) : mg "heavy" = some (.ref (He.ga K "heavy")) := T.glo 34 rfl
theorem g_counted (T : Tx K mg) : mg "counted" = some (.ref (He.ga K "counted")) := T.glo 35 rfl
theorem g_answers (T : Tx K mg) : mg "answers" = some (.ref (He.ga K "answers")) := T.glo 36 rfl
theorem g_width_of (T : Tx K mg) : mg "width_of" = some (.ref (He.ga K "width_of")) := T.glo 37 rfl
theorem g_has_mode (T : Tx K mg) : mg "has_mode" = some (.ref (He.ga K "has_mode")) := T.glo 38 rfl
theorem g_has_parts (T : Tx K mg) : mg "has_parts" = some (.ref (He.ga K "has_parts")) := T.glo 39 rfl
theorem g_Fault (T : Tx K mg) : mg "Fault" = some (.ref (He.ga K "Fault")) := T.glo 40 rfl
theorem x_Fault (T : Tx K mg) : PySem.W.exmOne K (.ref (He.ga K "Fault")) (.ref (He.ga K "Fault")) = some true := He.exm_ok (T.d.fact 41 rfl)
theorem g_Say (T : Tx K mg) : mg "Say" = some (.ref (He.ga K "Say")) := T.glo 42 rfl
theorem c_Say (T : Tx K mg) : Cls K (He.ga K "Say") := He.cls_ok (T.d.fact 43 rfl)
theorem k_Say (T : Tx K mg) : Mk K (He.ga K "Say") (He.ma K (He.ga K "Say") "__init__") := He.mkr_ok (T.d.fact 44 rfl)
theorem n_Say_amount (T : Tx K mg) : NoAttr K (He.ga K "Say") "amount" := He.noat_ok (T.d.fact 45 rfl)
theorem g_Call (T : Tx K mg) : mg "Call" = some (.ref (He.ga K "Call")) := T.glo 46 rfl
theorem c_Call (T : Tx K mg) : Cls K (He.ga K "Call") := He.cls_ok (T.d.fact 47 rfl)
theorem k_Call (T : Tx K mg) : Mk K (He.ga K "Call") (He.ma K (He.ga K "Call") "__init__") := He.mkr_ok (T.d.fact 48 rfl)
theorem n_Call_name (T : Tx K mg) : NoAttr K (He.ga K "Call") "name" := He.noat_ok (T.d.fact 49 rfl)
theorem g_Make (T : Tx K mg) : mg "Make" = some (.ref (He.ga K "Make")) := T.glo 50 rfl
theorem c_Make (T : Tx K mg) : Cls K (He.ga K "Make") := He.cls_ok (T.d.fact 51 rfl)
theorem k_Make (T : Tx K mg) : Mk K (He.ga K "Make") (He.ma K (He.ga K "Make") "__init__") := He.mkr_ok (T.d.fact 52 rfl)
theorem n_Make_pieces (T : Tx K mg) : NoAttr K (He.ga K "Make") "pieces" := He.noat_ok (T.d.fact 53 rfl)
theorem g_When (T : Tx K mg) : mg "When" = some (.ref (He.ga K "When")) := T.glo 54 rfl
theorem c_When (T : Tx K mg) : Cls K (He.ga K "When") := He.cls_ok (T.d.fact 55 rfl)
theorem k_When (T : Tx K mg) : Mk K (He.ga K "When") (He.ma K (He.ga K "When") "__init__") := He.mkr_ok (T.d.fact 56 rfl)
theorem n_When_setting (T : Tx K mg) : NoAttr K (He.ga K "When") "setting" := He.noat_ok (T.d.fact 57 rfl)
theorem n_When_word (T : Tx K mg) : NoAttr K (He.ga K "When") "word" := He.noat_ok (T.d.fact 58 rfl)
theorem n_When_body (T : Tx K mg) : NoAttr K (He.ga K "When") "body" := He.noat_ok (T.d.fact 59 rfl)
theorem g_Setting (T : Tx K mg) : mg "Setting" = some (.ref (He.ga K "Setting")) := T.glo 60 rfl
theorem c_Setting (T : Tx K mg) : Cls K (He.ga K "Setting") := He.cls_ok (T.d.fact 61 rfl)
theorem k_Setting (T : Tx K mg) : Mk K (He.ga K "Setting") (He.ma K (He.ga K "Setting") "__init__") := He.mkr_ok (T.d.fact 62 rfl)
theorem n_Setting_name (T : Tx K mg) : NoAttr K (He.ga K "Setting") "name" := He.noat_ok (T.d.fact 63 rfl)
theorem n_Setting_words (T : Tx K mg) : NoAttr K (He.ga K "Setting") "words" := He.noat_ok (T.d.fact 64 rfl)
theorem g_Part (T : Tx K mg) : mg "Part" = some (.ref (He.ga K "Part")) := T.glo 65 rfl
theorem c_Part (T : Tx K mg) : Cls K (He.ga K "Part") := He.cls_ok (T.d.fact 66 rfl)
theorem k_Part (T : Tx K mg) : Mk K (He.ga K "Part") (He.ma K (He.ga K "Part") "__init__") := He.mkr_ok (T.d.fact 67 rfl)
theorem n_Part_name (T : Tx K mg) : NoAttr K (He.ga K "Part") "name" := He.noat_ok (T.d.fact 68 rfl)
theorem n_Part_size (T : Tx K mg) : NoAttr K (He.ga K "Part") "size" := He.noat_ok (T.d.fact 69 rfl)
theorem n_Part_body (T : Tx K mg) : NoAttr K (He.ga K "Part") "body" := He.noat_ok (T.d.fact 70 rfl)
theorem g_Program (T : Tx K mg) : mg "Program" = some (.ref (He.ga K "Program")) := T.glo 71 rfl
theorem c_Program (T : Tx K mg) : Cls K (He.ga K "Program") := He.cls_ok (T.d.fact 72 rfl)
theorem k_Program (T : Tx K mg) : Mk K (He.ga K "Program") (He.ma K (He.ga K "Program") "__init__") := He.mkr_ok (T.d.fact 73 rfl)
theorem n_Program_settings (T : Tx K mg) : NoAttr K (He.ga K "Program") "settings" := He.noat_ok (T.d.fact 74 rfl)
theorem n_Program_parts (T : Tx K mg) : NoAttr K (He.ga K "Program") "parts" := He.noat_ok (T.d.fact 75 rfl)
theorem n_Program_entries (T : Tx K mg) : NoAttr K (He.ga K "Program") "entries" := He.noat_ok (T.d.fact 76 rfl)
theorem n_Program_numbers (T : Tx K mg) : NoAttr K (He.ga K "Program") "numbers" := He.noat_ok (T.d.fact 77 rfl)
theorem m_Program_size_of (T : Tx K mg) : Meth K (He.ga K "Program") "size_of" (He.ma K (He.ga K "Program") "size_of") := He.meth_ok (T.d.fact 78 rfl)
theorem g_Run (T : Tx K mg) : mg "Run" = some (.ref (He.ga K "Run")) := T.glo 79 rfl
theorem c_Run (T : Tx K mg) : Cls K (He.ga K "Run") := He.cls_ok (T.d.fact 80 rfl)
theorem k_Run (T : Tx K mg) : Mk K (He.ga K "Run") (He.ma K (He.ga K "Run") "__init__") := He.mkr_ok (T.d.fact 81 rfl)
theorem n_Run_program (T : Tx K mg) : NoAttr K (He.ga K "Run") "program" := He.noat_ok (T.d.fact 82 rfl)
theorem n_Run_choice (T : Tx K mg) : NoAttr K (He.ga K "Run") "choice" := He.noat_ok (T.d.fact 83 rfl)
theorem n_Run_away (T : Tx K mg) : NoAttr K (He.ga K "Run") "away" := He.noat_ok (T.d.fact 84 rfl)
theorem n_Run_entered (T : Tx K mg) : NoAttr K (He.ga K "Run") "entered" := He.noat_ok (T.d.fact 85 rfl)
theorem n_Run_within (T : Tx K mg) : NoAttr K (He.ga K "Run") "within" := He.noat_ok (T.d.fact 86 rfl)
theorem n_Run_done (T : Tx K mg) : NoAttr K (He.ga K "Run") "done" := He.noat_ok (T.d.fact 87 rfl)
theorem n_Run_ending (T : Tx K mg) : NoAttr K (He.ga K "Run") "ending" := He.noat_ok (T.d.fact 88 rfl)
theorem m_Run_call_part (T : Tx K mg) : Meth K (He.ga K "Run") "call_part" (He.ma K (He.ga K "Run") "call_part") := He.meth_ok (T.d.fact 89 rfl)
theorem m_Run_enter (T : Tx K mg) : Meth K (He.ga K "Run") "enter" (He.ma K (He.ga K "Run") "enter") := He.meth_ok (T.d.fact 90 rfl)
theorem m_Run_do_all (T : Tx K mg) : Meth K (He.ga K "Run") "do_all" (He.ma K (He.ga K "Run") "do_all") := He.meth_ok (T.d.fact 91 rfl)
theorem m_Run_do_one (T : Tx K mg) : Meth K (He.ga K "Run") "do_one" (He.ma K (He.ga K "Run") "do_one") := He.meth_ok (T.d.fact 92 rfl)
theorem m_Run_make_part (T : Tx K mg) : Meth K (He.ga K "Run") "make_part" (He.ma K (He.ga K "Run") "make_part") := He.meth_ok (T.d.fact 93 rfl)
theorem g_Reach (T : Tx K mg) : mg "Reach" = some (.ref (He.ga K "Reach")) := T.glo 94 rfl
theorem c_Reach (T : Tx K mg) : Cls K (He.ga K "Reach") := He.cls_ok (T.d.fact 95 rfl)
theorem k_Reach (T : Tx K mg) : Mk K (He.ga K "Reach") (He.ma K (He.ga K "Reach") "__init__") := He.mkr_ok (T.d.fact 96 rfl)
theorem n_Reach_program (T : Tx K mg) : NoAttr K (He.ga K "Reach") "program" := He.noat_ok (T.d.fact 97 rfl)
theorem n_Reach_tables (T : Tx K mg) : NoAttr K (He.ga K "Reach") "tables" := He.noat_ok (T.d.fact 98 rfl)
theorem n_Reach_known (T : Tx K mg) : NoAttr K (He.ga K "Reach") "known" := He.noat_ok (T.d.fact 99 rfl)
theorem m_Reach_come_to (T : Tx K mg) : Meth K (He.ga K "Reach") "come_to" (He.ma K (He.ga K "Reach") "come_to") := He.meth_ok (T.d.fact 100 rfl)
theorem m_Reach_search (T : Tx K mg) : Meth K (He.ga K "Reach") "search" (He.ma K (He.ga K "Reach") "search") := He.meth_ok (T.d.fact 101 rfl)
theorem m_Reach_lost_with (T : Tx K mg) : Meth K (He.ga K "Reach") "lost_with" (He.ma K (He.ga K "Reach") "lost_with") := He.meth_ok (T.d.fact 102 rfl)
theorem m_Reach_size_lost (T : Tx K mg) : Meth K (He.ga K "Reach") "size_lost" (He.ma K (He.ga K "Reach") "size_lost") := He.meth_ok (T.d.fact 103 rfl)
theorem g_Token (T : Tx K mg) : mg "Token" = some (.ref (He.ga K "Token")) := T.glo 104 rfl
theorem c_Token (T : Tx K mg) : Cls K (He.ga K "Token") := He.cls_ok (T.d.fact 105 rfl)
theorem k_Token (T : Tx K mg) : Mk K (He.ga K "Token") (He.ma K (He.ga K "Token") "__init__") := He.mkr_ok (T.d.fact 106 rfl)
theorem n_Token_kind (T : Tx K mg) : NoAttr K (He.ga K "Token") "kind" := He.noat_ok (T.d.fact 107 rfl)
theorem n_Token_text (T : Tx K mg) : NoAttr K (He.ga K "Token") "text" := He.noat_ok (T.d.fact 108 rfl)
theorem n_Token_place (T : Tx K mg) : NoAttr K (He.ga K "Token") "place" := He.noat_ok (T.d.fact 109 rfl)
theorem g_Reader (T : Tx K mg) : mg "Reader" = some (.ref (He.ga K "Reader")) := T.glo 110 rfl
theorem c_Reader (T : Tx K mg) : Cls K (He.ga K "Reader") := He.cls_ok (T.d.fact 111 rfl)
theorem k_Reader (T : Tx K mg) : Mk K (He.ga K "Reader") (He.ma K (He.ga K "Reader") "__init__") := He.mkr_ok (T.d.fact 112 rfl)
theorem n_Reader_tokens (T : Tx K mg) : NoAttr K (He.ga K "Reader") "tokens" := He.noat_ok (T.d.fact 113 rfl)
theorem n_Reader_at (T : Tx K mg) : NoAttr K (He.ga K "Reader") "at" := He.noat_ok (T.d.fact 114 rfl)
theorem n_Reader_settings (T : Tx K mg) : NoAttr K (He.ga K "Reader") "settings" := He.noat_ok (T.d.fact 115 rfl)
theorem n_Reader_parts (T : Tx K mg) : NoAttr K (He.ga K "Reader") "parts" := He.noat_ok (T.d.fact 116 rfl)
theorem n_Reader_entries (T : Tx K mg) : NoAttr K (He.ga K "Reader") "entries" := He.noat_ok (T.d.fact 117 rfl)
theorem n_Reader_callees (T : Tx K mg) : NoAttr K (He.ga K "Reader") "callees" := He.noat_ok (T.d.fact 118 rfl)
theorem m_Reader_read (T : Tx K mg) : Meth K (He.ga K "Reader") "read" (He.ma K (He.ga K "Reader") "read") := He.meth_ok (T.d.fact 119 rfl)
theorem m_Reader_ahead (T : Tx K mg) : Meth K (He.ga K "Reader") "ahead" (He.ma K (He.ga K "Reader") "ahead") := He.meth_ok (T.d.fact 120 rfl)
theorem m_Reader_take (T : Tx K mg) : Meth K (He.ga K "Reader") "take" (He.ma K (He.ga K "Reader") "take") := He.meth_ok (T.d.fact 121 rfl)
theorem m_Reader_take_if (T : Tx K mg) : Meth K (He.ga K "Reader") "take_if" (He.ma K (He.ga K "Reader") "take_if") := He.meth_ok (T.d.fact 122 rfl)
theorem m_Reader_read_setting (T : Tx K mg) : Meth K (He.ga K "Reader") "read_setting" (He.ma K (He.ga K "Reader") "read_setting") := He.meth_ok (T.d.fact 123 rfl)
theorem m_Reader_read_word (T : Tx K mg) : Meth K (He.ga K "Reader") "read_word" (He.ma K (He.ga K "Reader") "read_word") := He.meth_ok (T.d.fact 124 rfl)
theorem m_Reader_read_part (T : Tx K mg) : Meth K (He.ga K "Reader") "read_part" (He.ma K (He.ga K "Reader") "read_part") := He.meth_ok (T.d.fact 125 rfl)
theorem m_Reader_read_amount (T : Tx K mg) : Meth K (He.ga K "Reader") "read_amount" (He.ma K (He.ga K "Reader") "read_amount") := He.meth_ok (T.d.fact 126 rfl)
theorem m_Reader_read_body (T : Tx K mg) : Meth K (He.ga K "Reader") "read_body" (He.ma K (He.ga K "Reader") "read_body") := He.meth_ok (T.d.fact 127 rfl)
theorem m_Reader_read_statement (T : Tx K mg) : Meth K (He.ga K "Reader") "read_statement" (He.ma K (He.ga K "Reader") "read_statement") := He.meth_ok (T.d.fact 128 rfl)
theorem m_Reader_read_say (T : Tx K mg) : Meth K (He.ga K "Reader") "read_say" (He.ma K (He.ga K "Reader") "read_say") := He.meth_ok (T.d.fact 129 rfl)
theorem m_Reader_read_call (T : Tx K mg) : Meth K (He.ga K "Reader") "read_call" (He.ma K (He.ga K "Reader") "read_call") := He.meth_ok (T.d.fact 130 rfl)
theorem m_Reader_read_make (T : Tx K mg) : Meth K (He.ga K "Reader") "read_make" (He.ma K (He.ga K "Reader") "read_make") := He.meth_ok (T.d.fact 131 rfl)
theorem m_Reader_read_piece (T : Tx K mg) : Meth K (He.ga K "Reader") "read_piece" (He.ma K (He.ga K "Reader") "read_piece") := He.meth_ok (T.d.fact 132 rfl)
theorem m_Reader_read_when (T : Tx K mg) : Meth K (He.ga K "Reader") "read_when" (He.ma K (He.ga K "Reader") "read_when") := He.meth_ok (T.d.fact 133 rfl)
theorem m_Reader_read_start (T : Tx K mg) : Meth K (He.ga K "Reader") "read_start" (He.ma K (He.ga K "Reader") "read_start") := He.meth_ok (T.d.fact 134 rfl)
theorem m_Reader_read_entry (T : Tx K mg) : Meth K (He.ga K "Reader") "read_entry" (He.ma K (He.ga K "Reader") "read_entry") := He.meth_ok (T.d.fact 135 rfl)
theorem m_Reader_check_callees (T : Tx K mg) : Meth K (He.ga K "Reader") "check_callees" (He.ma K (He.ga K "Reader") "check_callees") := He.meth_ok (T.d.fact 136 rfl)
theorem g_Holder (T : Tx K mg) : mg "Holder" = some (.ref (He.ga K "Holder")) := T.glo 137 rfl
theorem c_Holder (T : Tx K mg) : Cls K (He.ga K "Holder") := He.cls_ok (T.d.fact 138 rfl)
theorem k_Holder (T : Tx K mg) : Mk K (He.ga K "Holder") (He.ma K (He.ga K "Holder") "__init__") := He.mkr_ok (T.d.fact 139 rfl)
theorem n_Holder_program (T : Tx K mg) : NoAttr K (He.ga K "Holder") "program" := He.noat_ok (T.d.fact 140 rfl)
theorem n_Holder_reaches (T : Tx K mg) : NoAttr K (He.ga K "Holder") "reaches" := He.noat_ok (T.d.fact 141 rfl)
theorem m_Holder_load (T : Tx K mg) : Meth K (He.ga K "Holder") "load" (He.ma K (He.ga K "Holder") "load") := He.meth_ok (T.d.fact 142 rfl)
theorem m_Holder_answer (T : Tx K mg) : Meth K (He.ga K "Holder") "answer" (He.ma K (He.ga K "Holder") "answer") := He.meth_ok (T.d.fact 143 rfl)
theorem m_Holder_tell (T : Tx K mg) : Meth K (He.ga K "Holder") "tell" (He.ma K (He.ga K "Holder") "tell") := He.meth_ok (T.d.fact 144 rfl)
theorem m_Holder_reach (T : Tx K mg) : Meth K (He.ga K "Holder") "reach" (He.ma K (He.ga K "Holder") "reach") := He.meth_ok (T.d.fact 145 rfl)
theorem i_TOO_LONG_faults (T : Tx K mg) : ∃ u, mg "TOO_LONG_faults" = some u ∧ RelV (.int 1) u := T.int 146 rfl
theorem i_NO_TOKEN (T : Tx K mg) : ∃ u, mg "NO_TOKEN" = some u ∧ RelV (.int 2) u := T.int 147 rfl
theorem i_NOT_ALLOWED (T : Tx K mg) : ∃ u, mg "NOT_ALLOWED" = some u ∧ RelV (.int 3) u := T.int 148 rfl
theorem i_TOO_MANY (T : Tx K mg) : ∃ u, mg "TOO_MANY" = some u ∧ RelV (.int 4) u := T.int 149 rfl
theorem i_TOLD_BEFORE (T : Tx K mg) : ∃ u, mg "TOLD_BEFORE" = some u ∧ RelV (.int 5) u := T.int 150 rfl
theorem i_ENTRY_TOLD_BEFORE (T : Tx K mg) : ∃ u, mg "ENTRY_TOLD_BEFORE" = some u ∧ RelV (.int 6) u := T.int 151 rfl
theorem i_OUT_OF_RANGE (T : Tx K mg) : ∃ u, mg "OUT_OF_RANGE" = some u ∧ RelV (.int 7) u := T.int 152 rfl
theorem i_UNKNOWN_NAME (T : Tx K mg) : ∃ u, mg "UNKNOWN_NAME" = some u ∧ RelV (.int 8) u := T.int 153 rfl
theorem i_UNKNOWN_CALL (T : Tx K mg) : ∃ u, mg "UNKNOWN_CALL" = some u ∧ RelV (.int 9) u := T.int 154 rfl
theorem i_MOST_WITHIN (T : Tx K mg) : ∃ u, mg "MOST_WITHIN" = some u ∧ RelV (.int 9) u := T.int 155 rfl
theorem i_MOST_DONE (T : Tx K mg) : ∃ u, mg "MOST_DONE" = some u ∧ RelV (.int 100) u := T.int 156 rfl
theorem i_WELL (T : Tx K mg) : ∃ u, mg "WELL" = some u ∧ RelV (.int 0) u := T.int 157 rfl
theorem i_TOO_DEEP (T : Tx K mg) : ∃ u, mg "TOO_DEEP" = some u ∧ RelV (.int 1) u := T.int 158 rfl
theorem i_TOO_LONG_runs (T : Tx K mg) : ∃ u, mg "TOO_LONG_runs" = some u ∧ RelV (.int 2) u := T.int 159 rfl
theorem i_MISSING (T : Tx K mg) : ∃ u, mg "MISSING" = some u ∧ RelV (.int 3) u := T.int 160 rfl
theorem i_BY_BRANCHES (T : Tx K mg) : ∃ u, mg "BY_BRANCHES" = some u ∧ RelV (.int 1) u := T.int 161 rfl
theorem i_EXACTLY (T : Tx K mg) : ∃ u, mg "EXACTLY" = some u ∧ RelV (.int 2) u := T.int 162 rfl
theorem i_LONGEST_TEXT (T : Tx K mg) : ∃ u, mg "LONGEST_TEXT" = some u ∧ RelV (.int 4096) u := T.int 163 rfl
theorem i_LONGEST_NAME (T : Tx K mg) : ∃ u, mg "LONGEST_NAME" = some u ∧ RelV (.int 16) u := T.int 164 rfl
theorem i_GREATEST_NUMBER (T : Tx K mg) : ∃ u, mg "GREATEST_NUMBER" = some u ∧ RelV (.int 1000000000) u := T.int 165 rfl
theorem i_MOST_DIGITS (T : Tx K mg) : ∃ u, mg "MOST_DIGITS" = some u ∧ RelV (.int 10) u := T.int 166 rfl
theorem t_BLANKS (T : Tx K mg) : ∃ u, mg "BLANKS" = some u ∧ RelV (.str " \t\n") u := T.str 167 rfl
theorem t_REMARK (T : Tx K mg) : ∃ u, mg "REMARK" = some u ∧ RelV (.str "#") u := T.str 168 rfl
theorem t_SIGNS (T : Tx K mg) : ∃ u, mg "SIGNS" = some u ∧ RelV (.str "+,:;{}") u := T.str 169 rfl
theorem t_DIGITS (T : Tx K mg) : ∃ u, mg "DIGITS" = some u ∧ RelV (.str "0123456789") u := T.str 170 rfl
theorem t_LETTERS (T : Tx K mg) : ∃ u, mg "LETTERS" = some u ∧ RelV (.str "ABCDEFGHIJKLMNOPQRSTUVWXYZabcdefghijklmnopqrstuvwxyz") u := T.str 171 rfl
theorem g_RESERVED (T : Tx K mg) : mg "RESERVED" = some (.ref (He.ga K "RESERVED")) := T.glo 172 rfl
theorem t_NAME (T : Tx K mg) : ∃ u, mg "NAME" = some u ∧ RelV (.str "name") u := T.str 173 rfl
theorem t_NUMBER (T : Tx K mg) : ∃ u, mg "NUMBER" = some u ∧ RelV (.str "number") u := T.str 174 rfl
theorem t_END (T : Tx K mg) : ∃ u, mg "END" = some u ∧ RelV (.str "end") u := T.str 175 rfl
theorem i_MOST_SETTINGS (T : Tx K mg) : ∃ u, mg "MOST_SETTINGS" = some u ∧ RelV (.int 3) u := T.int 176 rfl
theorem i_MOST_WORDS (T : Tx K mg) : ∃ u, mg "MOST_WORDS" = some u ∧ RelV (.int 4) u := T.int 177 rfl
theorem i_MOST_PARTS (T : Tx K mg) : ∃ u, mg "MOST_PARTS" = some u ∧ RelV (.int 10) u := T.int 178 rfl
theorem i_MOST_ENTRIES (T : Tx K mg) : ∃ u, mg "MOST_ENTRIES" = some u ∧ RelV (.int 4) u := T.int 179 rfl
theorem i_MOST_PIECES (T : Tx K mg) : ∃ u, mg "MOST_PIECES" = some u ∧ RelV (.int 3) u := T.int 180 rfl
theorem i_DEEPEST_WHEN (T : Tx K mg) : ∃ u, mg "DEEPEST_WHEN" = some u ∧ RelV (.int 3) u := T.int 181 rfl
theorem i_GREATEST_AMOUNT (T : Tx K mg) : ∃ u, mg "GREATEST_AMOUNT" = some u ∧ RelV (.int 99) u := T.int 182 rfl
theorem i_LOAD (T : Tx K mg) : ∃ u, mg "LOAD" = some u ∧ RelV (.int 0) u := T.int 183 rfl
theorem i_SHOWN (T : Tx K mg) : ∃ u, mg "SHOWN" = some u ∧ RelV (.int 1) u := T.int 184 rfl
theorem i_CHAIN (T : Tx K mg) : ∃ u, mg "CHAIN" = some u ∧ RelV (.int 2) u := T.int 185 rfl
theorem i_LOST (T : Tx K mg) : ∃ u, mg "LOST" = some u ∧ RelV (.int 3) u := T.int 186 rfl
theorem i_TREE (T : Tx K mg) : ∃ u, mg "TREE" = some u ∧ RelV (.int 4) u := T.int 187 rfl
theorem i_SHARES (T : Tx K mg) : ∃ u, mg "SHARES" = some u ∧ RelV (.int 5) u := T.int 188 rfl
theorem i_AROUND (T : Tx K mg) : ∃ u, mg "AROUND" = some u ∧ RelV (.int 6) u := T.int 189 rfl
theorem i_BOTH (T : Tx K mg) : ∃ u, mg "BOTH" = some u ∧ RelV (.int 7) u := T.int 190 rfl
theorem g_MODES (T : Tx K mg) : mg "MODES" = some (.ref (He.ga K "MODES")) := T.glo 191 rfl
theorem g_PARTS (T : Tx K mg) : mg "PARTS" = some (.ref (He.ga K "PARTS")) := T.glo 192 rfl
theorem i_NO_PROGRAM (T : Tx K mg) : ∃ u, mg "NO_PROGRAM" = some u ∧ RelV (.int 1) u := T.int 193 rfl
theorem i_NO_MODE (T : Tx K mg) : ∃ u, mg "NO_MODE" = some u ∧ RelV (.int 2) u := T.int 194 rfl
theorem i_NO_PART (T : Tx K mg) : ∃ u, mg "NO_PART" = some u ∧ RelV (.int 4) u := T.int 195 rfl
theorem b_Exception (T : Tx K mg) : mg "Exception" = none := T.free 196 rfl
theorem b_all (T : Tx K mg) : mg "all" = none := T.free 197 rfl
theorem b_enumerate (T : Tx K mg) : mg "enumerate" = none := T.free 198 rfl
theorem b_int (T : Tx K mg) : mg "int" = none := T.free 199 rfl
theorem b_isinstance (T : Tx K mg) : mg "isinstance" = none := T.free 200 rfl
theorem b_len (T : Tx K mg) : mg "len" = none := T.free 201 rfl
theorem b_list (T : Tx K mg) : mg "list" = none := T.free 202 rfl
theorem b_min (T : Tx K mg) : mg "min" = none := T.free 203 rfl
theorem b_ord (T : Tx K mg) : mg "ord" = none := T.free 204 rfl
theorem b_range (T : Tx K mg) : mg "range" = none := T.free 205 rfl
theorem b_set (T : Tx K mg) : mg "set" = none := T.free 206 rfl
theorem b_sorted (T : Tx K mg) : mg "sorted" = none := T.free 207 rfl
theorem b_str (T : Tx K mg) : mg "str" = none := T.free 208 rfl
theorem b_sum (T : Tx K mg) : mg "sum" = none := T.free 209 rfl
theorem b_tuple (T : Tx K mg) : mg "tuple" = none := T.free 210 rfl
theorem F_choices_of (T : Tx K mg) : ∃ fd, Fun K "choices_of" "choices_of" s_choices_of (He.ga K "choices_of") fd := by
  obtain ⟨fd, F⟩ := T.d.def_ 0 (d := d_choices_of) rfl
  exact ⟨fd, He5.fun_of (st := s_choices_of) F⟩
theorem F_choice_of (T : Tx K mg) : ∃ fd, Fun K "choice_of" "choice_of" s_choice_of (He.ga K "choice_of") fd := by
  obtain ⟨fd, F⟩ := T.d.def_ 1 (d := d_choice_of) rfl
  exact ⟨fd, He5.fun_of (st := s_choice_of) F⟩
theorem F_made_name (T : Tx K mg) : ∃ fd, Fun K "made_name" "made_name" s_made_name (He.ga K "made_name") fd := by
  obtain ⟨fd, F⟩ := T.d.def_ 2 (d := d_made_name) rfl
  exact ⟨fd, He5.fun_of (st := s_made_name) F⟩
theorem F_holds (T : Tx K mg) : ∃ fd, Fun K "holds" "holds" s_holds (He.ga K "holds") fd := by
  obtain ⟨fd, F⟩ := T.d.def_ 3 (d := d_holds) rfl
  exact ⟨fd, He5.fun_of (st := s_holds) F⟩
theorem F_entered_by_runs (T : Tx K mg) : ∃ fd, Fun K "entered_by_runs" "entered_by_runs" s_entered_by_runs (He.ga K "entered_by_runs") fd := by
  obtain ⟨fd, F⟩ := T.d.def_ 4 (d := d_entered_by_runs) rfl
  exact ⟨fd, He5.fun_of (st := s_entered_by_runs) F⟩
theorem F_tables_of (T : Tx K mg) : ∃ fd, Fun K "tables_of" "tables_of" s_tables_of (He.ga K "tables_of") fd := by
  obtain ⟨fd, F⟩ := T.d.def_ 5 (d := d_tables_of) rfl
  exact ⟨fd, He5.fun_of (st := s_tables_of) F⟩
theorem F_table_of (T : Tx K mg) : ∃ fd, Fun K "table_of" "table_of" s_table_of (He.ga K "table_of") fd := by
  obtain ⟨fd, F⟩ := T.d.def_ 6 (d := d_table_of) rfl
  exact ⟨fd, He5.fun_of (st := s_table_of) F⟩
theorem F_tell_names (T : Tx K mg) : ∃ fd, Fun K "tell_names" "tell_names" s_tell_names (He.ga K "tell_names") fd := by
  obtain ⟨fd, F⟩ := T.d.def_ 7 (d := d_tell_names) rfl
  exact ⟨fd, He5.fun_of (st := s_tell_names) F⟩
theorem F_chains_by (T : Tx K mg) : ∃ fd, Fun K "chains_by" "chains_by" s_chains_by (He.ga K "chains_by") fd := by
  obtain ⟨fd, F⟩ := T.d.def_ 8 (d := d_chains_by) rfl
  exact ⟨fd, He5.fun_of (st := s_chains_by) F⟩
theorem F_closest_of_all (T : Tx K mg) : ∃ fd, Fun K "closest_of_all" "closest_of_all" s_closest_of_all (He.ga K "closest_of_all") fd := by
  obtain ⟨fd, F⟩ := T.d.def_ 9 (d := d_closest_of_all) rfl
  exact ⟨fd, He5.fun_of (st := s_closest_of_all) F⟩
theorem F_closest_among (T : Tx K mg) : ∃ fd, Fun K "closest_among" "closest_among" s_closest_among (He.ga K "closest_among") fd := by
  obtain ⟨fd, F⟩ := T.d.def_ 10 (d := d_closest_among) rfl
  exact ⟨fd, He5.fun_of (st := s_closest_among) F⟩
theorem F_tokens_of (T : Tx K mg) : ∃ fd, Fun K "tokens_of" "tokens_of" s_tokens_of (He.ga K "tokens_of") fd := by
  obtain ⟨fd, F⟩ := T.d.def_ 11 (d := d_tokens_of) rfl
  exact ⟨fd, He5.fun_of (st := s_tokens_of) F⟩
theorem F_as_text (T : Tx K mg) : ∃ fd, Fun K "as_text" "as_text" s_as_text (He.ga K "as_text") fd := by
  obtain ⟨fd, F⟩ := T.d.def_ 12 (d := d_as_text) rfl
  exact ⟨fd, He5.fun_of (st := s_as_text) F⟩
theorem F_behind_blanks (T : Tx K mg) : ∃ fd, Fun K "behind_blanks" "behind_blanks" s_behind_blanks (He.ga K "behind_blanks") fd := by
  obtain ⟨fd, F⟩ := T.d.def_ 13 (d := d_behind_blanks) rfl
  exact ⟨fd, He5.fun_of (st := s_behind_blanks) F⟩
theorem F_remark_end (T : Tx K mg) : ∃ fd, Fun K "remark_end" "remark_end" s_remark_end (He.ga K "remark_end") fd := by
  obtain ⟨fd, F⟩ := T.d.def_ 14 (d := d_remark_end) rfl
  exact ⟨fd, He5.fun_of (st := s_remark_end) F⟩
theorem F_token_at (T : Tx K mg) : ∃ fd, Fun K "token_at" "token_at" s_token_at (He.ga K "token_at") fd := by
  obtain ⟨fd, F⟩ := T.d.def_ 15 (d := d_token_at) rfl
  exact ⟨fd, He5.fun_of (st := s_token_at) F⟩
theorem F_number_at (T : Tx K mg) : ∃ fd, Fun K "number_at" "number_at" s_number_at (He.ga K "number_at") fd := by
  obtain ⟨fd, F⟩ := T.d.def_ 16 (d := d_number_at) rfl
  exact ⟨fd, He5.fun_of (st := s_number_at) F⟩
theorem F_name_at (T : Tx K mg) : ∃ fd, Fun K "name_at" "name_at" s_name_at (He.ga K "name_at") fd := by
  obtain ⟨fd, F⟩ := T.d.def_ 17 (d := d_name_at) rfl
  exact ⟨fd, He5.fun_of (st := s_name_at) F⟩
theorem F_run_end (T : Tx K mg) : ∃ fd, Fun K "run_end" "run_end" s_run_end (He.ga K "run_end") fd := by
  obtain ⟨fd, F⟩ := T.d.def_ 18 (d := d_run_end) rfl
  exact ⟨fd, He5.fun_of (st := s_run_end) F⟩
theorem F_read_program (T : Tx K mg) : ∃ fd, Fun K "read_program" "read_program" s_read_program (He.ga K "read_program") fd := by
  obtain ⟨fd, F⟩ := T.d.def_ 19 (d := d_read_program) rfl
  exact ⟨fd, He5.fun_of (st := s_read_program) F⟩
theorem F_check_room (T : Tx K mg) : ∃ fd, Fun K "check_room" "check_room" s_check_room (He.ga K "check_room") fd := by
  obtain ⟨fd, F⟩ := T.d.def_ 20 (d := d_check_room) rfl
  exact ⟨fd, He5.fun_of (st := s_check_room) F⟩
theorem F_check_known (T : Tx K mg) : ∃ fd, Fun K "check_known" "check_known" s_check_known (He.ga K "check_known") fd := by
  obtain ⟨fd, F⟩ := T.d.def_ 21 (d := d_check_known) rfl
  exact ⟨fd, He5.fun_of (st := s_check_known) F⟩
theorem F_one_form (T : Tx K mg) : ∃ fd, Fun K "one_form" "one_form" s_one_form (He.ga K "one_form") fd := by
  obtain ⟨fd, F⟩ := T.d.def_ 22 (d := d_one_form) rfl
  exact ⟨fd, He5.fun_of (st := s_one_form) F⟩
theorem F_setting_row (T : Tx K mg) : ∃ fd, Fun K "setting_row" "setting_row" s_setting_row (He.ga K "setting_row") fd := by
  obtain ⟨fd, F⟩ := T.d.def_ 23 (d := d_setting_row) rfl
  exact ⟨fd, He5.fun_of (st := s_setting_row) F⟩
theorem F_part_row (T : Tx K mg) : ∃ fd, Fun K "part_row" "part_row" s_part_row (He.ga K "part_row") fd := by
  obtain ⟨fd, F⟩ := T.d.def_ 24 (d := d_part_row) rfl
  exact ⟨fd, He5.fun_of (st := s_part_row) F⟩
theorem F_bracketed (T : Tx K mg) : ∃ fd, Fun K "bracketed" "bracketed" s_bracketed (He.ga K "bracketed") fd := by
  obtain ⟨fd, F⟩ := T.d.def_ 25 (d := d_bracketed) rfl
  exact ⟨fd, He5.fun_of (st := s_bracketed) F⟩
theorem F_statement_form (T : Tx K mg) : ∃ fd, Fun K "statement_form" "statement_form" s_statement_form (He.ga K "statement_form") fd := by
  obtain ⟨fd, F⟩ := T.d.def_ 26 (d := d_statement_form) rfl
  exact ⟨fd, He5.fun_of (st := s_statement_form) F⟩
theorem F_shown (T : Tx K mg) : ∃ fd, Fun K "shown" "shown" s_shown (He.ga K "shown") fd := by
  obtain ⟨fd, F⟩ := T.d.def_ 27 (d := d_shown) rfl
  exact ⟨fd, He5.fun_of (st := s_shown) F⟩
theorem F_chain (T : Tx K mg) : ∃ fd, Fun K "chain" "chain" s_chain (He.ga K "chain") fd := by
  obtain ⟨fd, F⟩ := T.d.def_ 28 (d := d_chain) rfl
  exact ⟨fd, He5.fun_of (st := s_chain) F⟩
theorem F_lost (T : Tx K mg) : ∃ fd, Fun K "lost" "lost" s_lost (He.ga K "lost") fd := by
  obtain ⟨fd, F⟩ := T.d.def_ 29 (d := d_lost) rfl
  exact ⟨fd, He5.fun_of (st := s_lost) F⟩
theorem F_tree (T : Tx K mg) : ∃ fd, Fun K "tree" "tree" s_tree (He.ga K "tree") fd := by
  obtain ⟨fd, F⟩ := T.d.def_ 30 (d := d_tree) rfl
  exact ⟨fd, He5.fun_of (st := s_tree) F⟩
theorem F_shares (T : Tx K mg) : ∃ fd, Fun K "shares" "shares" s_shares (He.ga K "shares") fd := by
  obtain ⟨fd, F⟩ := T.d.def_ 31 (d := d_shares) rfl
  exact ⟨fd, He5.fun_of (st := s_shares) F⟩
theorem F_around (T : Tx K mg) : ∃ fd, Fun K "around" "around" s_around (He.ga K "around") fd := by
  obtain ⟨fd, F⟩ := T.d.def_ 32 (d := d_around) rfl
  exact ⟨fd, He5.fun_of (st := s_around) F⟩
theorem F_both (T : Tx K mg) : ∃ fd, Fun K "both" "both" s_both (He.ga K "both") fd := by
  obtain ⟨fd, F⟩ := T.d.def_ 33 (d := d_both) rfl
  exact ⟨fd, He5.fun_of (st := s_both) F⟩
theorem F_heavy (T : Tx K mg) : ∃ fd, Fun K "heavy" "heavy" s_heavy (He.ga K "heavy") fd := by
  obtain ⟨fd, F⟩ := T.d.def_ 34 (d := d_heavy) rfl
  exact ⟨fd, He5.fun_of (st := s_heavy) F⟩
theorem F_counted (T : Tx K mg) : ∃ fd, Fun K "counted" "counted" s_counted (He.ga K "counted") fd := by
  obtain ⟨fd, F⟩ := T.d.def_ 35 (d := d_counted) rfl
  exact ⟨fd, He5.fun_of (st := s_counted) F⟩
theorem F_answers (T : Tx K mg) : ∃ fd, Fun K "answers" "answers" s_answers (He.ga K "answers") fd := by
  obtain ⟨fd, F⟩ := T.d.def_ 36 (d := d_answers) rfl
  exact ⟨fd, He5.fun_of (st := s_answers) F⟩
theorem F_width_of (T : Tx K mg) : ∃ fd, Fun K "width_of" "width_of" s_width_of (He.ga K "width_of") fd := by
  obtain ⟨fd, F⟩ := T.d.def_ 37 (d := d_width_of) rfl
  exact ⟨fd, He5.fun_of (st := s_width_of) F⟩
theorem F_has_mode (T : Tx K mg) : ∃ fd, Fun K "has_mode" "has_mode" s_has_mode (He.ga K "has_mode") fd := by
  obtain ⟨fd, F⟩ := T.d.def_ 38 (d := d_has_mode) rfl
  exact ⟨fd, He5.fun_of (st := s_has_mode) F⟩
theorem F_has_parts (T : Tx K mg) : ∃ fd, Fun K "has_parts" "has_parts" s_has_parts (He.ga K "has_parts") fd := by
  obtain ⟨fd, F⟩ := T.d.def_ 39 (d := d_has_parts) rfl
  exact ⟨fd, He5.fun_of (st := s_has_parts) F⟩
theorem F_Fault_init (T : Tx K mg) : ∃ fd, Fun K "__init__" "Fault.__init__" s_Fault_init (He.ma K (He.ga K "Fault") "__init__") fd := by
  obtain ⟨fd, F⟩ := T.d.def_ 40 (d := d_Fault_init) rfl
  exact ⟨fd, He5.fun_of (st := s_Fault_init) F⟩
theorem F_Say_init (T : Tx K mg) : ∃ fd, Fun K "__init__" "Say.__init__" s_Say_init (He.ma K (He.ga K "Say") "__init__") fd := by
  obtain ⟨fd, F⟩ := T.d.def_ 41 (d := d_Say_init) rfl
  exact ⟨fd, He5.fun_of (st := s_Say_init) F⟩
theorem F_Call_init (T : Tx K mg) : ∃ fd, Fun K "__init__" "Call.__init__" s_Call_init (He.ma K (He.ga K "Call") "__init__") fd := by
  obtain ⟨fd, F⟩ := T.d.def_ 42 (d := d_Call_init) rfl
  exact ⟨fd, He5.fun_of (st := s_Call_init) F⟩
theorem F_Make_init (T : Tx K mg) : ∃ fd, Fun K "__init__" "Make.__init__" s_Make_init (He.ma K (He.ga K "Make") "__init__") fd := by
  obtain ⟨fd, F⟩ := T.d.def_ 43 (d := d_Make_init) rfl
  exact ⟨fd, He5.fun_of (st := s_Make_init) F⟩
theorem F_When_init (T : Tx K mg) : ∃ fd, Fun K "__init__" "When.__init__" s_When_init (He.ma K (He.ga K "When") "__init__") fd := by
  obtain ⟨fd, F⟩ := T.d.def_ 44 (d := d_When_init) rfl
  exact ⟨fd, He5.fun_of (st := s_When_init) F⟩
theorem F_Setting_init (T : Tx K mg) : ∃ fd, Fun K "__init__" "Setting.__init__" s_Setting_init (He.ma K (He.ga K "Setting") "__init__") fd := by
  obtain ⟨fd, F⟩ := T.d.def_ 45 (d := d_Setting_init) rfl
  exact ⟨fd, He5.fun_of (st := s_Setting_init) F⟩
theorem F_Part_init (T : Tx K mg) : ∃ fd, Fun K "__init__" "Part.__init__" s_Part_init (He.ma K (He.ga K "Part") "__init__") fd := by
  obtain ⟨fd, F⟩ := T.d.def_ 46 (d := d_Part_init) rfl
  exact ⟨fd, He5.fun_of (st := s_Part_init) F⟩
theorem F_Program_init (T : Tx K mg) : ∃ fd, Fun K "__init__" "Program.__init__" s_Program_init (He.ma K (He.ga K "Program") "__init__") fd := by
  obtain ⟨fd, F⟩ := T.d.def_ 47 (d := d_Program_init) rfl
  exact ⟨fd, He5.fun_of (st := s_Program_init) F⟩
theorem F_Program_size_of (T : Tx K mg) : ∃ fd, Fun K "size_of" "Program.size_of" s_Program_size_of (He.ma K (He.ga K "Program") "size_of") fd := by
  obtain ⟨fd, F⟩ := T.d.def_ 48 (d := d_Program_size_of) rfl
  exact ⟨fd, He5.fun_of (st := s_Program_size_of) F⟩
theorem F_Run_init (T : Tx K mg) : ∃ fd, Fun K "__init__" "Run.__init__" s_Run_init (He.ma K (He.ga K "Run") "__init__") fd := by
  obtain ⟨fd, F⟩ := T.d.def_ 49 (d := d_Run_init) rfl
  exact ⟨fd, He5.fun_of (st := s_Run_init) F⟩
theorem F_Run_call_part (T : Tx K mg) : ∃ fd, Fun K "call_part" "Run.call_part" s_Run_call_part (He.ma K (He.ga K "Run") "call_part") fd := by
  obtain ⟨fd, F⟩ := T.d.def_ 50 (d := d_Run_call_part) rfl
  exact ⟨fd, He5.fun_of (st := s_Run_call_part) F⟩
theorem F_Run_enter (T : Tx K mg) : ∃ fd, Fun K "enter" "Run.enter" s_Run_enter (He.ma K (He.ga K "Run") "enter") fd := by
  obtain ⟨fd, F⟩ := T.d.def_ 51 (d := d_Run_enter) rfl
  exact ⟨fd, He5.fun_of (st := s_Run_enter) F⟩
theorem F_Run_do_all (T : Tx K mg) : ∃ fd, Fun K "do_all" "Run.do_all" s_Run_do_all (He.ma K (He.ga K "Run") "do_all") fd := by
  obtain ⟨fd, F⟩ := T.d.def_ 52 (d := d_Run_do_all) rfl
  exact ⟨fd, He5.fun_of (st := s_Run_do_all) F⟩
theorem F_Run_do_one (T : Tx K mg) : ∃ fd, Fun K "do_one" "Run.do_one" s_Run_do_one (He.ma K (He.ga K "Run") "do_one") fd := by
  obtain ⟨fd, F⟩ := T.d.def_ 53 (d := d_Run_do_one) rfl
  exact ⟨fd, He5.fun_of (st := s_Run_do_one) F⟩
theorem F_Run_make_part (T : Tx K mg) : ∃ fd, Fun K "make_part" "Run.make_part" s_Run_make_part (He.ma K (He.ga K "Run") "make_part") fd := by
  obtain ⟨fd, F⟩ := T.d.def_ 54 (d := d_Run_make_part) rfl
  exact ⟨fd, He5.fun_of (st := s_Run_make_part) F⟩
theorem F_Reach_init (T : Tx K mg) : ∃ fd, Fun K "__init__" "Reach.__init__" s_Reach_init (He.ma K (He.ga K "Reach") "__init__") fd := by
  obtain ⟨fd, F⟩ := T.d.def_ 55 (d := d_Reach_init) rfl
  exact ⟨fd, He5.fun_of (st := s_Reach_init) F⟩
theorem F_Reach_come_to (T : Tx K mg) : ∃ fd, Fun K "come_to" "Reach.come_to" s_Reach_come_to (He.ma K (He.ga K "Reach") "come_to") fd := by
  obtain ⟨fd, F⟩ := T.d.def_ 56 (d := d_Reach_come_to) rfl
  exact ⟨fd, He5.fun_of (st := s_Reach_come_to) F⟩
theorem F_Reach_search (T : Tx K mg) : ∃ fd, Fun K "search" "Reach.search" s_Reach_search (He.ma K (He.ga K "Reach") "search") fd := by
  obtain ⟨fd, F⟩ := T.d.def_ 57 (d := d_Reach_search) rfl
  exact ⟨fd, He5.fun_of (st := s_Reach_search) F⟩
theorem F_Reach_lost_with (T : Tx K mg) : ∃ fd, Fun K "lost_with" "Reach.lost_with" s_Reach_lost_with (He.ma K (He.ga K "Reach") "lost_with") fd := by
  obtain ⟨fd, F⟩ := T.d.def_ 58 (d := d_Reach_lost_with) rfl
  exact ⟨fd, He5.fun_of (st := s_Reach_lost_with) F⟩
theorem F_Reach_size_lost (T : Tx K mg) : ∃ fd, Fun K "size_lost" "Reach.size_lost" s_Reach_size_lost (He.ma K (He.ga K "Reach") "size_lost") fd := by
  obtain ⟨fd, F⟩ := T.d.def_ 59 (d := d_Reach_size_lost) rfl
  exact ⟨fd, He5.fun_of (st := s_Reach_size_lost) F⟩
theorem F_Token_init (T : Tx K mg) : ∃ fd, Fun K "__init__" "Token.__init__" s_Token_init (He.ma K (He.ga K "Token") "__init__") fd := by
  obtain ⟨fd, F⟩ := T.d.def_ 60 (d := d_Token_init) rfl
  exact ⟨fd, He5.fun_of (st := s_Token_init) F⟩
theorem F_Reader_init (T : Tx K mg) : ∃ fd, Fun K "__init__" "Reader.__init__" s_Reader_init (He.ma K (He.ga K "Reader") "__init__") fd := by
  obtain ⟨fd, F⟩ := T.d.def_ 61 (d := d_Reader_init) rfl
  exact ⟨fd, He5.fun_of (st := s_Reader_init) F⟩
theorem F_Reader_read (T : Tx K mg) : ∃ fd, Fun K "read" "Reader.read" s_Reader_read (He.ma K (He.ga K "Reader") "read") fd := by
  obtain ⟨fd, F⟩ := T.d.def_ 62 (d := d_Reader_read) rfl
  exact ⟨fd, He5.fun_of (st := s_Reader_read) F⟩
theorem F_Reader_ahead (T : Tx K mg) : ∃ fd, Fun K "ahead" "Reader.ahead" s_Reader_ahead (He.ma K (He.ga K "Reader") "ahead") fd := by
  obtain ⟨fd, F⟩ := T.d.def_ 63 (d := d_Reader_ahead) rfl
  exact ⟨fd, He5.fun_of (st := s_Reader_ahead) F⟩
theorem F_Reader_take (T : Tx K mg) : ∃ fd, Fun K "take" "Reader.take" s_Reader_take (He.ma K (He.ga K "Reader") "take") fd := by
  obtain ⟨fd, F⟩ := T.d.def_ 64 (d := d_Reader_take) rfl
  exact ⟨fd, He5.fun_of (st := s_Reader_take) F⟩
theorem F_Reader_take_if (T : Tx K mg) : ∃ fd, Fun K "take_if" "Reader.take_if" s_Reader_take_if (He.ma K (He.ga K "Reader") "take_if") fd := by
  obtain ⟨fd, F⟩ := T.d.def_ 65 (d := d_Reader_take_if) rfl
  exact ⟨fd, He5.fun_of (st := s_Reader_take_if) F⟩
theorem F_Reader_read_setting (T : Tx K mg) : ∃ fd, Fun K "read_setting" "Reader.read_setting" s_Reader_read_setting (He.ma K (He.ga K "Reader") "read_setting") fd := by
  obtain ⟨fd, F⟩ := T.d.def_ 66 (d := d_Reader_read_setting) rfl
  exact ⟨fd, He5.fun_of (st := s_Reader_read_setting) F⟩
theorem F_Reader_read_word (T : Tx K mg) : ∃ fd, Fun K "read_word" "Reader.read_word" s_Reader_read_word (He.ma K (He.ga K "Reader") "read_word") fd := by
  obtain ⟨fd, F⟩ := T.d.def_ 67 (d := d_Reader_read_word) rfl
  exact ⟨fd, He5.fun_of (st := s_Reader_read_word) F⟩
theorem F_Reader_read_part (T : Tx K mg) : ∃ fd, Fun K "read_part" "Reader.read_part" s_Reader_read_part (He.ma K (He.ga K "Reader") "read_part") fd := by
  obtain ⟨fd, F⟩ := T.d.def_ 68 (d := d_Reader_read_part) rfl
  exact ⟨fd, He5.fun_of (st := s_Reader_read_part) F⟩
theorem F_Reader_read_amount (T : Tx K mg) : ∃ fd, Fun K "read_amount" "Reader.read_amount" s_Reader_read_amount (He.ma K (He.ga K "Reader") "read_amount") fd := by
  obtain ⟨fd, F⟩ := T.d.def_ 69 (d := d_Reader_read_amount) rfl
  exact ⟨fd, He5.fun_of (st := s_Reader_read_amount) F⟩
theorem F_Reader_read_body (T : Tx K mg) : ∃ fd, Fun K "read_body" "Reader.read_body" s_Reader_read_body (He.ma K (He.ga K "Reader") "read_body") fd := by
  obtain ⟨fd, F⟩ := T.d.def_ 70 (d := d_Reader_read_body) rfl
  exact ⟨fd, He5.fun_of (st := s_Reader_read_body) F⟩
theorem F_Reader_read_statement (T : Tx K mg) : ∃ fd, Fun K "read_statement" "Reader.read_statement" s_Reader_read_statement (He.ma K (He.ga K "Reader") "read_statement") fd := by
  obtain ⟨fd, F⟩ := T.d.def_ 71 (d := d_Reader_read_statement) rfl
  exact ⟨fd, He5.fun_of (st := s_Reader_read_statement) F⟩
theorem F_Reader_read_say (T : Tx K mg) : ∃ fd, Fun K "read_say" "Reader.read_say" s_Reader_read_say (He.ma K (He.ga K "Reader") "read_say") fd := by
  obtain ⟨fd, F⟩ := T.d.def_ 72 (d := d_Reader_read_say) rfl
  exact ⟨fd, He5.fun_of (st := s_Reader_read_say) F⟩
theorem F_Reader_read_call (T : Tx K mg) : ∃ fd, Fun K "read_call" "Reader.read_call" s_Reader_read_call (He.ma K (He.ga K "Reader") "read_call") fd := by
  obtain ⟨fd, F⟩ := T.d.def_ 73 (d := d_Reader_read_call) rfl
  exact ⟨fd, He5.fun_of (st := s_Reader_read_call) F⟩
theorem F_Reader_read_make (T : Tx K mg) : ∃ fd, Fun K "read_make" "Reader.read_make" s_Reader_read_make (He.ma K (He.ga K "Reader") "read_make") fd := by
  obtain ⟨fd, F⟩ := T.d.def_ 74 (d := d_Reader_read_make) rfl
  exact ⟨fd, He5.fun_of (st := s_Reader_read_make) F⟩
theorem F_Reader_read_piece (T : Tx K mg) : ∃ fd, Fun K "read_piece" "Reader.read_piece" s_Reader_read_piece (He.ma K (He.ga K "Reader") "read_piece") fd := by
  obtain ⟨fd, F⟩ := T.d.def_ 75 (d := d_Reader_read_piece) rfl
  exact ⟨fd, He5.fun_of (st := s_Reader_read_piece) F⟩
theorem F_Reader_read_when (T : Tx K mg) : ∃ fd, Fun K "read_when" "Reader.read_when" s_Reader_read_when (He.ma K (He.ga K "Reader") "read_when") fd := by
  obtain ⟨fd, F⟩ := T.d.def_ 76 (d := d_Reader_read_when) rfl
  exact ⟨fd, He5.fun_of (st := s_Reader_read_when) F⟩
theorem F_Reader_read_start (T : Tx K mg) : ∃ fd, Fun K "read_start" "Reader.read_start" s_Reader_read_start (He.ma K (He.ga K "Reader") "read_start") fd := by
  obtain ⟨fd, F⟩ := T.d.def_ 77 (d := d_Reader_read_start) rfl
  exact ⟨fd, He5.fun_of (st := s_Reader_read_start) F⟩
theorem F_Reader_read_entry (T : Tx K mg) : ∃ fd, Fun K "read_entry" "Reader.read_entry" s_Reader_read_entry (He.ma K (He.ga K "Reader") "read_entry") fd := by
  obtain ⟨fd, F⟩ := T.d.def_ 78 (d := d_Reader_read_entry) rfl
  exact ⟨fd, He5.fun_of (st := s_Reader_read_entry) F⟩
theorem F_Reader_check_callees (T : Tx K mg) : ∃ fd, Fun K "check_callees" "Reader.check_callees" s_Reader_check_callees (He.ma K (He.ga K "Reader") "check_callees") fd := by
  obtain ⟨fd, F⟩ := T.d.def_ 79 (d := d_Reader_check_callees) rfl
  exact ⟨fd, He5.fun_of (st := s_Reader_check_callees) F⟩
theorem F_Holder_init (T : Tx K mg) : ∃ fd, Fun K "__init__" "Holder.__init__" s_Holder_init (He.ma K (He.ga K "Holder") "__init__") fd := by
  obtain ⟨fd, F⟩ := T.d.def_ 80 (d := d_Holder_init) rfl
  exact ⟨fd, He5.fun_of (st := s_Holder_init) F⟩
theorem F_Holder_load (T : Tx K mg) : ∃ fd, Fun K "load" "Holder.load" s_Holder_load (He.ma K (He.ga K "Holder") "load") fd := by
  obtain ⟨fd, F⟩ := T.d.def_ 81 (d := d_Holder_load) rfl
  exact ⟨fd, He5.fun_of (st := s_Holder_load) F⟩
theorem F_Holder_answer (T : Tx K mg) : ∃ fd, Fun K "answer" "Holder.answer" s_Holder_answer (He.ma K (He.ga K "Holder") "answer") fd := by
  obtain ⟨fd, F⟩ := T.d.def_ 82 (d := d_Holder_answer) rfl
  exact ⟨fd, He5.fun_of (st := s_Holder_answer) F⟩
theorem F_Holder_tell (T : Tx K mg) : ∃ fd, Fun K "tell" "Holder.tell" s_Holder_tell (He.ma K (He.ga K "Holder") "tell") fd := by
  obtain ⟨fd, F⟩ := T.d.def_ 83 (d := d_Holder_tell) rfl
  exact ⟨fd, He5.fun_of (st := s_Holder_tell) F⟩
theorem F_Holder_reach (T : Tx K mg) : ∃ fd, Fun K "reach" "Holder.reach" s_Holder_reach (He.ma K (He.ga K "Holder") "reach") fd := by
  obtain ⟨fd, F⟩ := T.d.def_ 84 (d := d_Holder_reach) rfl
  exact ⟨fd, He5.fun_of (st := s_Holder_reach) F⟩
theorem e_0 (T : Tx K mg) : (He.tupB K "RESERVED" [.str "set", .str "part", .str "size", .str "start", .str "say", .str "call", .str "make", .str "when", .str "is"]) = true := by
  have h : ex K = true := T.m
  unfold ex at h
  rw [Bool.and_eq_true] at h
  exact h.1
theorem e_1 (T : Tx K mg) : (He.tupB K "MODES" [.int 0, .int 0, .int 2, .int 3, .int 0, .int 3, .int 0, .int 3, .int 3]) = true := by
  have h : ex K = true := T.m
  unfold ex at h
  rw [Bool.and_eq_true] at h
  replace h := h.2
  rw [Bool.and_eq_true] at h
  exact h.1
theorem e_2 (T : Tx K mg) : (eclB K (He.ga K "Fault")) = true := by
  have h : ex K = true := T.m
  unfold ex at h
  rw [Bool.and_eq_true] at h
  replace h := h.2
  rw [Bool.and_eq_true] at h
  replace h := h.2
  rw [Bool.and_eq_true] at h
  exact h.1
theorem e_3 (T : Tx K mg) : (xfB K (He.ga K "Fault")) = true := by
  have h : ex K = true := T.m
  unfold ex at h
  rw [Bool.and_eq_true] at h
  replace h := h.2
  rw [Bool.and_eq_true] at h
  replace h := h.2
  rw [Bool.and_eq_true] at h
  replace h := h.2
  rw [Bool.and_eq_true] at h
  exact h.1
theorem e_4 (T : Tx K mg) : (decide (PySem.W.findIn K (.ref (He.ga K "Fault")) "code" = some none)) = true := by
  have h : ex K = true := T.m
  unfold ex at h
  rw [Bool.and_eq_true] at h
  replace h := h.2
  rw [Bool.and_eq_true] at h
  replace h := h.2
  rw [Bool.and_eq_true] at h
  replace h := h.2
  rw [Bool.and_eq_true] at h
  replace h := h.2
  rw [Bool.and_eq_true] at h
  exact h.1
theorem e_5 (T : Tx K mg) : (decide (PySem.W.findIn K (.ref (He.ga K "Fault")) "place" = some none)) = true := by
  have h : ex K = true := T.m
  unfold ex at h
  rw [Bool.and_eq_true] at h
  replace h := h.2
  rw [Bool.and_eq_true] at h
  replace h := h.2
  rw [Bool.and_eq_true] at h
  replace h := h.2
  rw [Bool.and_eq_true] at h
  replace h := h.2
  rw [Bool.and_eq_true] at h
  replace h := h.2
  rw [Bool.and_eq_true] at h
  exact h.1
theorem e_6 (T : Tx K mg) : (decide (PySem.W.findIn K (.ref (He.ga K "Fault")) "__init__" = some (some (.ref (He.ma K (He.ga K "Fault") "__init__"))))) = true := by
  have h : ex K = true := T.m
  unfold ex at h
  rw [Bool.and_eq_true] at h
  replace h := h.2
  rw [Bool.and_eq_true] at h
  replace h := h.2
  rw [Bool.and_eq_true] at h
  replace h := h.2
  rw [Bool.and_eq_true] at h
  replace h := h.2
  rw [Bool.and_eq_true] at h
  replace h := h.2
  rw [Bool.and_eq_true] at h
  replace h := h.2
  rw [Bool.and_eq_true] at h
  exact h.1
theorem e_7 (T : Tx K mg) : (decide (PySem.W.typeIn K (.ref (He.ma K (He.ga K "Fault") "__init__")) = some (.type "function"))) = true := by
  have h : ex K = true := T.m
  unfold ex at h
  rw [Bool.and_eq_true] at h
  replace h := h.2
  rw [Bool.and_eq_true] at h
  replace h := h.2
  rw [Bool.and_eq_true] at h
  replace h := h.2
  rw [Bool.and_eq_true] at h
  replace h := h.2
  rw [Bool.and_eq_true] at h
  replace h := h.2
  rw [Bool.and_eq_true] at h
  replace h := h.2
  rw [Bool.and_eq_true] at h
  replace h := h.2
  rw [Bool.and_eq_true] at h
  exact h.1
theorem e_8 (T : Tx K mg) : ((match PySem.W.findCls K (.type "Exception") (.type "type") "__init__" with | some (.val v) => decide (v = .builtin "Exception.__init__") | _ => false)) = true := by
  have h : ex K = true := T.m
  unfold ex at h
  rw [Bool.and_eq_true] at h
  replace h := h.2
  rw [Bool.and_eq_true] at h
  replace h := h.2
  rw [Bool.and_eq_true] at h
  replace h := h.2
  rw [Bool.and_eq_true] at h
  replace h := h.2
  rw [Bool.and_eq_true] at h
  replace h := h.2
  rw [Bool.and_eq_true] at h
  replace h := h.2
  rw [Bool.and_eq_true] at h
  replace h := h.2
  rw [Bool.and_eq_true] at h
  replace h := h.2
  rw [Bool.and_eq_true] at h
  exact h.1
theorem e_9 (T : Tx K mg) : (isiB K ["Say", "Call", "Make", "When"] ["Say", "Call", "Make", "When"]) = true := by
  have h : ex K = true := T.m
  unfold ex at h
  rw [Bool.and_eq_true] at h
  replace h := h.2
  rw [Bool.and_eq_true] at h
  replace h := h.2
  rw [Bool.and_eq_true] at h
  replace h := h.2
  rw [Bool.and_eq_true] at h
  replace h := h.2
  rw [Bool.and_eq_true] at h
  replace h := h.2
  rw [Bool.and_eq_true] at h
  replace h := h.2
  rw [Bool.and_eq_true] at h
  replace h := h.2
  rw [Bool.and_eq_true] at h
  replace h := h.2
  rw [Bool.and_eq_true] at h
  replace h := h.2
  rw [Bool.and_eq_true] at h
  exact h.1
theorem e_10 (T : Tx K mg) : (He.tupB K "PARTS" [.int 0, .int 0, .int 1, .int 1, .int 0, .int 0, .int 2, .int 2, .int 0]) = true := by
  have h : ex K = true := T.m
  unfold ex at h
  rw [Bool.and_eq_true] at h
  replace h := h.2
  rw [Bool.and_eq_true] at h
  replace h := h.2
  rw [Bool.and_eq_true] at h
  replace h := h.2
  rw [Bool.and_eq_true] at h
  replace h := h.2
  rw [Bool.and_eq_true] at h
  replace h := h.2
  rw [Bool.and_eq_true] at h
  replace h := h.2
  rw [Bool.and_eq_true] at h
  replace h := h.2
  rw [Bool.and_eq_true] at h
  replace h := h.2
  rw [Bool.and_eq_true] at h
  replace h := h.2
  rw [Bool.and_eq_true] at h
  replace h := h.2
  exact h
end Vf

set_option Elab.async false
set_option linter.all false
set_option maxRecDepth 100000
set_option maxHeartbeats 4000000
/-! The bundle of a def that keeps a promise, and the rules of its calls. -/
namespace Vf
open PySem PySem.Spec PyProof.Rows L2
/-- the def at f keeps sp -/
structure Df (P : Program) (w : World) (K : PySem.W.Frag) (mg : Str → Option Value) (base : Heap) (CX : CXT) (k : Nat) (f : Addr) (ps : List Str) (sp : Sp) : Prop where
  ex : ∃ fd, FnOk P w K mg base CX k f fd ps sp ∧ PySem.W.keepIn K (.ref f) = true ∧ Binds K fd ps []
theorem Df.mono {P : Program} {w : World} {K : PySem.W.Frag} {mg : Str → Option Value} {base : Heap} {CX : CXT} {j k : Nat} {f : Addr} {ps : List Str} {sp : Sp} (c : Df P w K mg base CX j f ps sp) (h : j ≤ k) : Df P w K mg base CX k f ps sp := by
  obtain ⟨fd, F, a, b⟩ := c.ex
  exact ⟨fd, F.mono h, a, b⟩
section
variable {P : Program} {w : World} {K : PySem.W.Frag} {mg : Str → Option Value} {base : Heap} {k : Nat} {f : Addr} {x qual : Str} {st : Stmt} {N ps : List Str} {sp : Sp}
/-- a def that lets no error out, by its body -/
theorem df_mk (F : ∃ fd, Fun K x qual st f fd) (S : FnScope N ps (defScope st))
    (hb : ∀ (kV doc pm : Value) (an : Option Addr) (cdv ct : Value) (us : List Value), us.length = ps.length → bindArgs (PySem.W.fnOf x qual (defArgs st) (defBody st) (defScope st) .none kV doc pm an cdv ct) ⟨us, []⟩ = pure (ps.zip us))
    (len : ∀ vs H Q E, sp vs H Q E → vs.length = ps.length)
    (body : ∀ (cdv : Value) (A : Around) (outer : List Env) (s : Shared) (H : Hp) (vs : List V) (Q : VK) (E : XK), Room k (A.deeper (envOfC qual (defScope st) s.heap.objs.size f cdv)) → sp vs H Q E →
      ∃ t, PSs (cxOf CX0 P w K mg base N qual (defScope st) f cdv A outer s H E).nox (defBody st) t ∧ t { nx := fun _ H' => Q .non H', rt := Q } (start N vs) H) :
    Df P w K mg base CX0 (k + 1) f ps sp := by
  obtain ⟨fd, G⟩ := F
  exact ⟨fd, G.ok S len body, G.kp, G.binds hb⟩
/-- a def that may raise -/
theorem dfx_mk (F : ∃ fd, Fun K x qual st f fd) (S : FnScope N ps (defScope st))
    (hb : ∀ (kV doc pm : Value) (an : Option Addr) (cdv ct : Value) (us : List Value), us.length = ps.length → bindArgs (PySem.W.fnOf x qual (defArgs st) (defBody st) (defScope st) .none kV doc pm an cdv ct) ⟨us, []⟩ = pure (ps.zip us))
    (len : ∀ vs H Q E, sp vs H Q E → vs.length = ps.length)
    (body : ∀ (cdv : Value) (A : Around) (outer : List Env) (s : Shared) (H : Hp) (vs : List V) (Q : VK) (E : XK), Room k (A.deeper (envOfC qual (defScope st) s.heap.objs.size f cdv)) → sp vs H Q E →
      ∃ t, PSs (cxOf (L2.CX P w) P w K mg base N qual (defScope st) f cdv A outer s H E) (defBody st) t ∧ t { nx := fun _ H' => Q .non H', rt := Q } (start N vs) H) :
    Df P w K mg base (L2.CX P w) (k + 1) f ps sp := by
  obtain ⟨fd, G⟩ := F
  exact ⟨fd, G.okX S len body, G.kp, G.binds hb⟩
end
section
variable {X : Cx} {j k : Nat} {f C : Addr} {ps : List Str} {sp : Sp} {W : WX} {x m : Str} {p pos apos : Pos} {e o : Expr} {es : List Expr} {ta : TE} {t : TA}
theorem pf (c : Df X.prog X.w X.K X.mg X.base CX0 k f ps sp) (hm : X.mg x = some (.ref f)) (hr : Room j X.A) (ha : PA X (e :: es) t) (hk : k ≤ j := by first | decide | omega) (hg : Gl X x := by exact rfl) (hdb : (x == ("__debug__" : Str)) = false := by decide)
    (he : starEach (e :: es) X.env = (false, eval e X.env) :: starEach es X.env := by rfl) (hpl : (backTo pos (starEach es X.env)).any (·.1) = false := by rfl) : PE X (.Call (.Name x p) (e :: es) [] pos) (tCall sp [] E0 t) := by
  obtain ⟨fd, F, kp, b⟩ := c.ex
  exact pe_call F (hr.mono hk) hg hm kp b .nil pass0 ha hdb he hpl
theorem pfx (c : Df X.prog X.w X.K X.mg X.base (L2.CX X.prog X.w) k f ps sp) (hm : X.mg x = some (.ref f)) (tk : Takes X W) (hr : Room j X.A) (ha : PA X (e :: es) t) (hk : k ≤ j := by first | decide | omega) (hg : Gl X x := by exact rfl) (hdb : (x == ("__debug__" : Str)) = false := by decide)
    (he : starEach (e :: es) X.env = (false, eval e X.env) :: starEach es X.env := by rfl) (hpl : (backTo pos (starEach es X.env)).any (·.1) = false := by rfl) : PE X (.Call (.Name x p) (e :: es) [] pos) (tCallS sp (WE W) t) := by
  obtain ⟨fd, F, kp, b⟩ := c.ex
  exact pe_callS F (hr.mono hk) hg hm kp b (fun σ => passAt tk σ) ha hdb he hpl
theorem pm {pl : Sem Bool} (c : Df X.prog X.w X.K X.mg X.base CX0 k f ps sp) (cl : Cls X.K C) (hm : Meth X.K C m f) (hr : Room j X.A) (ho : PE X o ta) (ha : PA X (e :: es) t) (hk : k ≤ j := by first | decide | omega)
    (hst : starEach (e :: es) X.env = (false, eval e X.env) :: starEach es X.env := by rfl) (hpl : (backTo pos (starEach es X.env)).any (·.1) = false := by rfl)
    (ht : eval (.Call (.Attribute o m apos) (e :: es) [] pos) X.env = (do
      let v ← eval o X.env
      standAt apos.atName
      let (g, first) ← holding [v] (getMethod v m pl)
      callWith pos g first (backTo pos (starEach (e :: es) X.env)) (backToKw pos (keywordEach [] X.env))) := by rfl) :
    PE X (.Call (.Attribute o m apos) (e :: es) [] pos) (tMeth C m sp [] E0 ta t) := by
  obtain ⟨fd, F, kp, b⟩ := c.ex
  exact pe_meth (pl := pl) ho cl hm F (hr.mono hk) b .nil pass0 ha hst hpl ht
theorem pm0 {pl : Sem Bool} (c : Df X.prog X.w X.K X.mg X.base CX0 k f ps sp) (cl : Cls X.K C) (hm : Meth X.K C m f) (hr : Room j X.A) (ho : PE X o ta) (hk : k ≤ j := by first | decide | omega)
    (ht : eval (.Call (.Attribute o m apos) [] [] pos) X.env = (do
      let v ← eval o X.env
      standAt apos.atName
      let (g, first) ← holding [v] (getMethod v m pl)
      callWith pos g first (backTo pos (starEach [] X.env)) (backToKw pos (keywordEach [] X.env))) := by rfl) :
    PE X (.Call (.Attribute o m apos) [] [] pos) (tMeth C m sp [] E0 ta tNil) := by
  obtain ⟨fd, F, kp, b⟩ := c.ex
  exact pe_meth0 (pl := pl) ho cl hm F (hr.mono hk) b .nil pass0 ht
/-- o.m(e, ..) where m may raise: its error is wished for at the slots as they stand -/
def tMx (C : Addr) (m : Str) (sp : Sp) (E : L2.St → XK) (ta : TE) (t : TA) : TE := fun σ H Q => ta σ H fun v H1 =>
  ∃ a dx fs, v = .ref a ∧ H1 a = some (.ins C dx fs) ∧ fs.lookup m = none ∧ t σ H1 fun vs H2 => sp (v :: vs) H2 Q (E σ)
theorem pmx {pl : Sem Bool} (c : Df X.prog X.w X.K X.mg X.base (L2.CX X.prog X.w) k f ps sp) (cl : Cls X.K C) (hm : Meth X.K C m f) (tk : Takes X W) (hr : Room j X.A) (ho : PE X o ta) (ha : PA X (e :: es) t) (hk : k ≤ j := by first | decide | omega)
    (hst : starEach (e :: es) X.env = (false, eval e X.env) :: starEach es X.env := by rfl) (hpl : (backTo pos (starEach es X.env)).any (·.1) = false := by rfl)
    (ht : eval (.Call (.Attribute o m apos) (e :: es) [] pos) X.env = (do
      let v ← eval o X.env
      standAt apos.atName
      let (g, first) ← holding [v] (getMethod v m pl)
      callWith pos g first (backTo pos (starEach (e :: es) X.env)) (backToKw pos (keywordEach [] X.env))) := by rfl) :
    PE X (.Call (.Attribute o m apos) (e :: es) [] pos) (tMx C m sp (WE W) ta t) := by
  obtain ⟨fd, F, kp, b⟩ := c.ex
  constructor
  intro pins s σ H Q I h
  refine PySem.W.methodCall_KW (pl := pl) (thn (ho.run pins s σ H _ I h) ?_) ht
  rintro u s1 ⟨v, H1, I1, rv, a, dx, fs, rfl, ea, l, q⟩
  obtain rfl : u = Value.ref a := rv
  refine getmeth_ok I1 ea cl hm l ?_
  refine PySem.W.callWith_K (first := [.ref a]) (h₀ := X.base) I.ok.mod.kin hm.kp (thn (ha.run pos pins s1 σ H1 _ I1 q) ?_) hst hpl
  rintro us s2 ⟨vs, H2, I2, r, q2⟩
  exact ⟨I2.kIn, run_fnS (us := .ref a :: us) (vs := .ref a :: vs) F (hr.mono hk) b (passAt tk σ) I2 (.cons rfl r) q2⟩
theorem pmx0 {pl : Sem Bool} (c : Df X.prog X.w X.K X.mg X.base (L2.CX X.prog X.w) k f ps sp) (cl : Cls X.K C) (hm : Meth X.K C m f) (tk : Takes X W) (hr : Room j X.A) (ho : PE X o ta) (hk : k ≤ j := by first | decide | omega)
    (ht : eval (.Call (.Attribute o m apos) [] [] pos) X.env = (do
      let v ← eval o X.env
      standAt apos.atName
      let (g, first) ← holding [v] (getMethod v m pl)
      callWith pos g first (backTo pos (starEach [] X.env)) (backToKw pos (keywordEach [] X.env))) := by rfl) :
    PE X (.Call (.Attribute o m apos) [] [] pos) (tMx C m sp (WE W) ta tNil) := by
  obtain ⟨fd, F, kp, b⟩ := c.ex
  constructor
  intro pins s σ H Q I h
  refine PySem.W.methodCall_KW (pl := pl) (thn (ho.run pins s σ H _ I h) ?_) ht
  rintro u s1 ⟨v, H1, I1, rv, a, dx, fs, rfl, ea, l, q⟩
  obtain rfl : u = Value.ref a := rv
  refine getmeth_ok I1 ea cl hm l ?_
  exact PySem.W.callWith_K0 (first := [.ref a]) I1.kIn hm.kp (run_fnS (us := [.ref a]) (vs := [.ref a]) F (hr.mono hk) b (passAt tk σ) I1 (.cons rfl .nil) q)
theorem pk (c : Df X.prog X.w X.K X.mg X.base CX0 k f ps sp) (M : Mk X.K C f) (hm : X.mg x = some (.ref C)) (hr : Room j X.A) (ha : PA X (e :: es) t) (hk : k + 1 ≤ j := by first | decide | omega) (hg : Gl X x := by exact rfl) (hdb : (x == ("__debug__" : Str)) = false := by decide)
    (he : starEach (e :: es) X.env = (false, eval e X.env) :: starEach es X.env := by rfl) (hpl : (backTo pos (starEach es X.env)).any (·.1) = false := by rfl) : PE X (.Call (.Name x p) (e :: es) [] pos) (tMake C sp [] E0 t) := by
  obtain ⟨fd, F, kp, b⟩ := c.ex
  exact pe_make M F (hr.mono hk) hg hm b .nil pass0 ha hdb he hpl
theorem pk0 (c : Df X.prog X.w X.K X.mg X.base CX0 k f ps sp) (M : Mk X.K C f) (hm : X.mg x = some (.ref C)) (hr : Room j X.A) (hk : k + 1 ≤ j := by first | decide | omega) (hg : Gl X x := by exact rfl) (hdb : (x == ("__debug__" : Str)) = false := by decide) :
    PE X (.Call (.Name x p) [] [] pos) (tMake C sp [] E0 tNil) := by
  obtain ⟨fd, F, kp, b⟩ := c.ex
  exact pe_make0 M F (hr.mono hk) hg hm b .nil pass0 hdb
/-- a constant of the module -/
theorem pg {v : V} (h : ∃ u, X.mg x = some u ∧ RelV v u) (hg : Gl X x := by exact rfl) (hd : (x == ("__debug__" : Str)) = false := by decide) : PE X (.Name x pos) (tC v) := by
  obtain ⟨u, hm, r⟩ := h
  exact pe_glob hg hm r hd
/-- an object of the module (a class, a tuple) by its name -/
theorem pgo {a : Addr} (h : X.mg x = some (.ref a)) (hg : Gl X x := by exact rfl) (hd : (x == ("__debug__" : Str)) = false := by decide) : PE X (.Name x pos) (tC (.ref a)) := pe_glob hg h rfl hd
end
/-! the same with the written part as a letter: within a comprehension -/
section
variable {X : Cx} {K : PySem.W.Frag} {e o : Expr} {es : List Expr} {ta to : TE} {t : TA} {f name : Str} {pos apos cpos : Pos} {T id : String} {r : V → List V → Hp → VK → Prop}
theorem pe_fldK (h : X.K = K) (he : PE X e ta) (hb : attributeBase e f X.env (eval e X.env) = eval e X.env) : PE X (.Attribute e f pos) (tFld K ta f) := by
  subst h
  exact pe_fld he hb
theorem pe_bmK (h : X.K = K) (pa : PlainAttrs T) (slot : Slot T name id) (hty : typeOf (.builtin id) = pure (.type "method_descriptor")) (hm : MtR X id r) (ho : PE X o to) (ha : PA X (e :: es) t)
    (hbase : attributeBase o name X.env (eval o X.env) = eval o X.env := by rfl)
    (hfew : ((backTo cpos (starEach (e :: es) X.env)).all (fun x => !x.1) && (backToKw cpos (keywordEach [] X.env)).all (fun x => x.1.isSome)
      && decide ((e :: es).length + ([] : List Keyword).length + (if ([] : List Keyword).isEmpty then 0 else 1) < 30)) = true := by rfl)
    (hline : (apos.endLine == cpos.line) = true := by rfl) (hs : starEach (e :: es) X.env = (false, eval e X.env) :: starEach es X.env := by rfl) (hplain : (backTo cpos (starEach es X.env)).any (·.1) = false := by rfl) :
    PE X (.Call (.Attribute o name apos) (e :: es) [] cpos) (tBM K T r to t) := by
  subst h
  exact pe_bm pa slot hty hm ho ha hbase hfew hline hs hplain
theorem mt_indexK (h : X.K = K) : MtR X "list.index" (rIndex K) := by
  subst h
  exact mt_index
theorem ix_listK (h : X.K = K) : IxR X (rIxL K) := by
  subst h
  exact ix_list
theorem ix_tupK (h : X.K = K) : IxR X (rIxT K) := by
  subst h
  exact ix_tup
theorem op_inK (h : X.K = K) : OpR X (compareOp .In) (rIn K false) := by
  subst h
  exact op_in_seq
theorem op_notInK (h : X.K = K) : OpR X (compareOp .NotIn) (rIn K true) := by
  subst h
  exact op_notIn_seq
theorem len_seqK (h : X.K = K) : CallR X (.builtin "len") (fun xs H Q => ∃ p ys, xs = [.ref p] ∧ (SqL K H p ys ∨ SqT K H p ys) ∧ Q (.int (ys.length : Nat)) H) := by
  subst h
  exact call_len_seq
end
/-- one of two readings -/
theorem callR_or {X : Cx} {f : Value} {r1 r2 : List V → Hp → VK → Prop} (h1 : CallR X f r1) (h2 : CallR X f r2) : CallR X f (fun xs H Q => r1 xs H Q ∨ r2 xs H Q) := by
  intro pins s σ H xs us Q I r h
  rcases h with h | h
  · exact h1 pins s σ H xs us Q I r h
  · exact h2 pins s σ H xs us Q I r h
theorem opR_or {X : Cx} {f : Value → Value → Sem Value} {r1 r2 : R2} (h1 : OpR X f r1) (h2 : OpR X f r2) : OpR X f (fun x y H Q => r1 x y H Q ∨ r2 x y H Q) := by
  intro pins s σ H x y v u Q I rx ry h
  rcases h with h | h
  · exact h1 pins s σ H x y v u Q I rx ry h
  · exact h2 pins s σ H x y v u Q I rx ry h
theorem op_din {X : Cx} (hu : X.A.units + 1 < cLine) : OpR X (compareOp .In) (fun y x H Q => ∃ a o, x = .ref a ∧ DGet H a y o ∧ Q (.bl o.isSome) H) := by
  intro pins s σ H y x v u Q I ry rx h
  obtain ⟨a, ov, rfl, g, q⟩ := h
  obtain rfl : u = Value.ref a := rx
  exact d_in hu I g ry fun s3 I3 => ⟨.bl ov.isSome, H, I3, rfl, q⟩
theorem op_dnotin {X : Cx} (hu : X.A.units + 1 < cLine) : OpR X (compareOp .NotIn) (fun y x H Q => ∃ a o, x = .ref a ∧ DGet H a y o ∧ Q (.bl (!o.isSome)) H) := by
  intro pins s σ H y x v u Q I ry rx h
  obtain ⟨a, ov, rfl, g, q⟩ := h
  obtain rfl : u = Value.ref a := rx
  exact d_notIn hu I g ry fun s3 I3 => ⟨.bl (!ov.isSome), H, I3, rfl, q⟩
/-- what this body wants of an error that a callee lets out -/
abbrev WO (E : XK) : WX := fun cls d _ H => E cls d H
end Vf
namespace Vf
open PySem PySem.Spec PyProof.Rows L2
theorem pfault {X : Cx} {j k : Nat} {C fI : Addr} {ps : List Str} {sp : Sp} {x : Str} {p pos : Pos} {e : Expr} {es : List Expr} {ta : TA}
    (c : Df X.prog X.w X.K X.mg X.base CX0 k fI ps sp) (T : Ecl X.K C) (iC : PySem.W.findIn X.K (.ref C) "__init__" = some (some (.ref fI))) (tI : PySem.W.typeIn X.K (.ref fI) = some (.type "function")) (hm : X.mg x = some (.ref C)) (hr : Room j X.A)
    (ha : PA X (e :: es) ta) (hk : k + 1 ≤ j := by first | decide | omega) (hg : Gl X x := by exact rfl) (hdb : (x == ("__debug__" : Str)) = false := by decide)
    (he : starEach (e :: es) X.env = (false, eval e X.env) :: starEach es X.env := by rfl) (hpl : (backTo pos (starEach es X.env)).any (·.1) = false := by rfl) : PMk X (.Call (.Name x p) (e :: es) [] pos) (tBorn C sp ta) := by
  obtain ⟨fd, F, kp, b⟩ := c.ex
  exact pmk_born T iC tI F (hr.mono hk) b pass0 hg hm ha hdb he hpl
/-- what Fault's __init__ does -/
def spFault (C : Addr) : Sp := fun vs H Q _ => ∃ (a : Addr) (c p : Int), vs = [.ref a, .int c, .int p] ∧ Ecl_at H a C ∧
  ∀ dx, H dx = none → dx ≠ a → Q .non (upd (upd (upd H dx (exd dx [("code", .int c)])) a (exo a C (some dx))) dx (exd dx [("place", .int p), ("code", .int c)]))
where Ecl_at (H : Hp) (a C : Addr) : Prop := H a = some (exo a C none)
/-- a fault of this code and place lies at d -/
def FaultAt (H : Hp) (d : Addr) (c p : Int) : Prop := H d = some (.xd [("place", .int p), ("code", .int c)])
theorem born {C : Addr} {H : Hp} {Q : XK} {c p : Int} (h : ∀ d, H d = none → Q (.ref C) (some d) (upd H d (.xd [("place", .int p), ("code", .int c)]))) :
    [V.int c, V.int p].length ≤ 1000 ∧ ∀ a, H a = none → spFault C (.ref a :: [.int c, .int p]) (upd H a (exo a C none))
      (fun v H2 => v = .non ∧ ∃ (d : Addr) (fs : List (Str × V)), H2 a = some (exo a C (some d)) ∧ H2 d = some (exd d fs) ∧ H d = none ∧ Q (.ref C) (some d) (upd (del H2 a) d (.xd fs))) (fun _ _ _ => False) := by
  refine ⟨(by show 2 ≤ 1000; decide), fun a ha => ⟨a, c, p, rfl, upd_same, fun dx h1 ne => ⟨rfl, dx, [("place", .int p), ("code", .int c)], ?_, upd_same, ?_, ?_⟩⟩⟩
  · rw [upd_ne (Ne.symm ne), upd_same]
  · rw [upd_ne ne] at h1
    exact h1
  · rw [upd_ne ne] at h1
    have e : upd (del (upd (upd (upd (upd H a (exo a C none)) dx (exd dx [("code", .int c)])) a (exo a C (some dx))) dx (exd dx [("place", .int p), ("code", .int c)])) a) dx (.xd [("place", .int p), ("code", .int c)]) = upd H dx (.xd [("place", .int p), ("code", .int c)]) := by
      funext b
      by_cases hb : b = dx
      · subst hb
        rw [upd_same, upd_same]
      · rw [upd_ne hb, upd_ne hb]
        by_cases hba : b = a
        · subst hba
          rw [del_same, ha]
        · rw [del_ne hba, upd_ne hb, upd_ne hba, upd_ne hb, upd_ne hba]
    rw [e]
    exact h dx h1
end Vf

set_option Elab.async false
set_option linter.all false
set_option maxRecDepth 100000
set_option maxHeartbeats 4000000
/-! The defs of the lexing: runs of signs, blanks, tokens. -/
namespace Vf
open PySem PySem.Spec PyProof.Rows L2
open VakepBase (Bytes isBlank isLetter isDigit SIGNS token Tok PTok Toks numberOf decimal)
/-- the text of these bytes -/
def tx (b : Bytes) : Str := ⟨(b.map UInt8.toNat).toArray⟩
theorem tx_list (b : Bytes) : (tx b).cps.toList = b.map UInt8.toNat := rfl
theorem tx_len (b : Bytes) : (tx b).length = b.length := by
  show (b.map UInt8.toNat).toArray.size = _
  simp
theorem tx_at {b : Bytes} {i : Nat} {c : UInt8} (h : b[i]? = some c) : (tx b).cps[i]? = some c.toNat := by
  show (b.map UInt8.toNat).toArray[i]? = _
  simp [h]
theorem small {n : Nat} (h : n ≤ 100000) : n ≤ sizeLine := Nat.le_trans h (by decide)
theorem iteD {c A B : Prop} [Decidable c] (h1 : c → A) (h2 : ¬ c → B) : if decide c = true then A else B := by
  by_cases h : c
  · rw [if_pos (decide_eq_true h)]
    exact h1 h
  · rw [if_neg (by rw [decide_eq_false h]; exact Bool.false_ne_true)]
    exact h2 h
theorem drop_get {α : Type} {l : List α} {j : Nat} {c : α} (h : l[j]? = some c) : l.drop j = c :: l.drop (j + 1) := by
  obtain ⟨hj, e⟩ := List.getElem?_eq_some_iff.mp h
  rw [List.drop_eq_getElem_cons hj, e]
section
variable {P : Program} {w : World} {K : PySem.W.Frag} {mg : Str → Option Value} {base : Heap}
abbrev N_Fault_init : List Str := ["self", "code", "place"]
abbrev P_Fault_init : List Str := ["self", "code", "place"]
theorem sc_Fault_init : FnScope N_Fault_init P_Fault_init (defScope s_Fault_init) := ⟨rfl, rfl, rfl, by decide +kernel, rfl, by decide +kernel, by decide +kernel⟩
abbrev N_Token_init : List Str := ["self", "kind", "text", "place"]
abbrev P_Token_init : List Str := ["self", "kind", "text", "place"]
theorem sc_Token_init : FnScope N_Token_init P_Token_init (defScope s_Token_init) := ⟨rfl, rfl, rfl, by decide +kernel, rfl, by decide +kernel, by decide +kernel⟩
abbrev N_run_end : List Str := ["text", "at", "allowed"]
abbrev P_run_end : List Str := ["text", "at", "allowed"]
theorem sc_run_end : FnScope N_run_end P_run_end (defScope s_run_end) := ⟨rfl, rfl, rfl, by decide +kernel, rfl, by decide +kernel, by decide +kernel⟩
theorem e_init (T : Tx K mg) : PySem.W.findCls K (.type "Exception") (.type "type") "__init__" = some (.val (.builtin "Exception.__init__")) := by
  have h := e_8 T
  split at h
  · rename_i v e
    have q : v = .builtin "Exception.__init__" := of_decide_eq_true h
    rw [e, q]
  · cases h
theorem ok_Fault_init (T : Tx K mg) : Df P w K mg base CX0 1 (He.ma K (He.ga K "Fault") "__init__") P_Fault_init (spFault (He.ga K "Fault")) := by
  refine df_mk (F_Fault_init T) sc_Fault_init (fun _ _ _ _ _ _ us hl => match us, hl with | [_, _, _], _ => rfl) (fun vs H Q E h => by obtain ⟨_, _, _, rfl, _⟩ := h; rfl) (fun cdv A outer s H vs Q E hr h => ⟨_, (pss_cons (ps_expr (pe_base (by rfl) (b_Exception T) (e_init T) (pa_cons (pv 0) (pa_cons (pv 1) (pa_cons (pv 2) pa_nil))))) (pss_cons (ps_keep (pv 0) (pv 1)) (pss_one (ps_keep (pv 0) (pv 2))))), ?_⟩)
  obtain ⟨a, c, p, rfl, ha, k⟩ := h
  have E := ecl_of (e_2 T)
  refine ⟨_, rfl, _, rfl, _, rfl, a, _, [.int c, .int p], rfl, (by show 2 ≤ 1000; decide), E, ha, ?_⟩
  refine ⟨_, rfl, _, rfl, a, _, rfl, E, of_decide_eq_true (e_4 T), .inl ⟨ha, fun dx h1 ne => ?_⟩⟩
  refine ⟨_, rfl, _, rfl, a, _, rfl, E, of_decide_eq_true (e_5 T), .inr ⟨dx, _, upd_same, ?_, (by show 1 ≤ 900; decide), k dx h1 ne⟩⟩
  rw [upd_ne ne]
  exact upd_same
/-- a token's fields -/
def tokF (k z : Str) (p : Int) : List (Str × V) := [("kind", .str k), ("text", .str z), ("place", .int p)]
def spToken (C : Addr) : Sp := fun vs H Q _ => ∃ (a dx : Addr) (k z : Str) (p : Int), vs = [.ref a, .str k, .str z, .int p] ∧ H a = some (.ins C dx []) ∧
  ∀ H' : Hp, H' a = some (.ins C dx (tokF k z p)) → (∀ b, b ≠ a → H' b = H b) → Q .non H'
theorem ok_Token_init (T : Tx K mg) : Df P w K mg base CX0 1 (He.ma K (He.ga K "Token") "__init__") P_Token_init (spToken (He.ga K "Token")) := by
  refine df_mk (F_Token_init T) sc_Token_init (fun _ _ _ _ _ _ us hl => match us, hl with | [_, _, _, _], _ => rfl) (fun vs H Q E h => by obtain ⟨_, _, _, _, _, rfl, _⟩ := h; rfl) (fun cdv A outer s H vs Q E hr h => ⟨_, (pss_cons (ps_fld (pv 0) (pv 1) rfl) (pss_cons (ps_fld (pv 0) (pv 2) rfl) (pss_one (ps_fld (pv 0) (pv 3) rfl)))), ?_⟩)
  obtain ⟨a, dx, k, z, p, rfl, ha, q⟩ := h
  refine ⟨_, rfl, _, rfl, a, _, dx, _, rfl, ha, c_Token T, n_Token_kind T, (by show 0 < 1000; decide), ?_⟩
  refine ⟨_, rfl, _, rfl, a, _, dx, _, rfl, upd_same, c_Token T, n_Token_text T, (by show 1 < 1000; decide), ?_⟩
  refine ⟨_, rfl, _, rfl, a, _, dx, _, rfl, upd_same, c_Token T, n_Token_place T, (by show 2 < 1000; decide), ?_⟩
  refine q _ upd_same fun b hb => ?_
  rw [upd_ne hb, upd_ne hb, upd_ne hb]
def sp_run_end : Sp := fun vs H Q _ => ∃ (b : Bytes) (i : Nat) (al : Str), vs = [.str (tx b), .int i, .str al] ∧ b.length ≤ 10000 ∧ i ≤ b.length ∧
  ∃ p : UInt8 → Bool, (∀ c : UInt8, c.toNat ∈ al.cps.toList ↔ p c = true) ∧ Q (.int ((i + ((b.drop i).takeWhile p).length : Nat) : Int)) H
theorem ok_run_end (T : Tx K mg) : Df P w K mg base CX0 1 (He.ga K "run_end") P_run_end sp_run_end := by
  refine df_mk (F_run_end T) sc_run_end (fun _ _ _ _ _ _ us hl => match us, hl with | [_, _, _], _ => rfl) (fun vs H Q E h => by obtain ⟨_, _, _, rfl, _⟩ := h; rfl) (fun cdv A outer s H vs Q E hr h => ⟨_, (pss_cons (ps_while PassesOwn.never (PW.pt (pw_and (pt_cmpR op_lt (pv 1) (pe_callB call_len_str (by rfl) (b_len T) PySem.boot_len (pa_cons (pv 0) pa_nil)) (nomark _)) (pw_and1 (pt_cmpR op_in_sign (pe_item_str (pv 0) (pv 1) (fun _ _ => rfl)) (pv 2) rfl)))) (pss_one (ps_aug (i := 1) sc_run_end.nd rfl (Or.inl rfl) pe_int ip_add))) (pss_one (ps_ret (pv 1)))), ?_⟩)
  obtain ⟨b, i, al, rfl, hb, hi, p, hp, q⟩ := h
  refine ⟨fun m σ H' => ∃ j : Nat, m = b.length - j ∧ j ≤ b.length ∧ σ = [some (.str (tx b)), some (.int j), some (.str al)] ∧ H' = H ∧ i + ((b.drop i).takeWhile p).length = j + ((b.drop j).takeWhile p).length,
    ⟨_, i, rfl, hi, rfl, rfl, rfl⟩, ?_⟩
  rintro m σ H' ⟨j, rfl, hj, rfl, rfl, e⟩
  refine ⟨_, rfl, _, rfl, _, rfl, small (by rw [tx_len]; omega), _, _, rfl, rfl, _, rfl, ?_⟩
  refine iteD (fun h1 => ?_) (fun h1 => ?_)
  · have hj' : j < b.length := by
      rw [tx_len] at h1
      omega
    obtain ⟨c, hc⟩ : ∃ c, b[j]? = some c := ⟨_, List.getElem?_eq_getElem hj'⟩
    have hd := drop_get hc
    refine ⟨_, rfl, _, rfl, _, _, _, rfl, rfl, by omega, by omega, h1, tx_at hc, _, rfl, _, _, rfl, rfl, _, rfl, ?_⟩
    refine iteD (fun h2 => ?_) (fun h2 => ?_)
    · refine ⟨fun σ' H'' => σ' = [some (.str (tx b)), some (.int ((j + 1 : Nat) : Int)), some (.str al)] ∧ H'' = H', ?_, _, rfl, _, _, rfl, rfl, rfl, rfl⟩
      rintro σ' H'' ⟨rfl, rfl⟩
      refine ⟨_, by omega, j + 1, rfl, hj', rfl, rfl, ?_⟩
      rw [e, hd, List.takeWhile_cons, if_pos ((hp c).mp h2), List.length_cons]
      omega
    · refine ⟨_, rfl, ?_⟩
      rw [e, hd, List.takeWhile_cons, if_neg (fun z => h2 ((hp c).mpr z))] at q
      exact q
  · refine ⟨_, rfl, ?_⟩
    have : j = b.length := by
      rw [tx_len] at h1
      omega
    subst this
    rw [e, List.drop_length] at q
    exact q

theorem rem_is {b : Bytes} {i k : Nat} (h1 : i ≤ k) (h2 : k ≤ b.length) (h3 : ∀ v, i ≤ v → v < k → b[v]? ≠ some 10) (h4 : k = b.length ∨ b[k]? = some 10) : i + remLen b i = k := by
  unfold remLen
  generalize e : k - i = n
  induction n generalizing i with
  | zero =>
    obtain rfl : i = k := by omega
    rcases h4 with rfl | h4
    · rw [List.drop_length]
      rfl
    · rw [drop_at h4, List.takeWhile_cons, if_neg (by decide)]
      rfl
  | succ n ih =>
    have hi : i < b.length := by omega
    have hg : b[i]? = some b[i] := List.getElem?_eq_getElem hi
    have hne : b[i] ≠ 10 := fun z => h3 i (Nat.le_refl _) (by omega) (by rw [hg, z])
    have := ih (i := i + 1) (by omega) (fun v a c => h3 v (by omega) c) (by omega)
    rw [drop_at hg, List.takeWhile_cons, if_pos (by simpa using hne), List.length_cons]
    omega
theorem get_tx {b : Bytes} {v : Nat} (h : v < b.length) : (tx b).cps.getD v 0 = (b[v]).toNat := by
  have e := tx_at (List.getElem?_eq_getElem h)
  rw [Array.getD_eq_getD_getElem?, e] <;> rfl
theorem find_line (b : Bytes) (i : Nat) (hi : i ≤ b.length) :
    (if Txt.find3 (tx b) "\n" (i : Int) < 0 then ((tx b).length : Int) else Txt.find3 (tx b) "\n" (i : Int)) = ((i + remLen b i : Nat) : Int) := by
  have fi : fromIndex (tx b).length (i : Int) = i := by
    unfold fromIndex
    rw [if_neg (by omega)]
    omega
  have e10 : ("\n" : Str) = ⟨#[10]⟩ := by decide +kernel
  rw [e10]
  have back : ∀ {v : Nat}, v < b.length → ((tx b).cps.getD v 0 = 10 ↔ b[v]? = some 10) := fun {v} hv => by
    rw [get_tx hv, List.getElem?_eq_getElem hv]
    constructor
    · intro h
      exact congrArg some (UInt8.toNat_inj.mp h)
    · intro h
      rw [Option.some.inj h] <;> rfl
  rcases StrLaws.find3_spec (tx b) 10 (i : Int) with ⟨e, hn⟩ | ⟨k, e, h1, h2, h3, h4⟩
  · rw [fi, tx_len] at hn
    rw [e, if_pos (by decide), tx_len]
    congr 1
    refine (rem_is hi (Nat.le_refl _) (fun v a c z => hn v a c ((back c).mpr z)) (.inl rfl)).symm
  · rw [fi] at h1 h4
    rw [tx_len] at h2
    rw [e, if_neg (by omega)]
    congr 1
    exact (rem_is h1 (Nat.le_of_lt h2) (fun v a c z => h4 v a c ((back (by omega)).mpr z)) (.inr ((back h2).mp h3))).symm
abbrev N_remark_end : List Str := ["text", "at", "end"]
abbrev P_remark_end : List Str := ["text", "at"]
theorem sc_remark_end : FnScope N_remark_end P_remark_end (defScope s_remark_end) := ⟨rfl, rfl, rfl, by decide +kernel, rfl, by decide +kernel, by decide +kernel⟩
def sp_remark_end : Sp := fun vs H Q _ => ∃ (b : Bytes) (i : Nat), vs = [.str (tx b), .int i] ∧ b.length ≤ 10000 ∧ i ≤ b.length ∧ Q (.int ((i + remLen b i : Nat) : Int)) H
theorem ok_remark_end (T : Tx K mg) : Df P w K mg base CX0 1 (He.ga K "remark_end") P_remark_end sp_remark_end := by
  refine df_mk (F_remark_end T) sc_remark_end (fun _ _ _ _ _ _ us hl => match us, hl with | [_, _], _ => rfl) (fun vs H Q E h => by obtain ⟨_, _, rfl, _⟩ := h; rfl) (fun cdv A outer s H vs Q E hr h => ⟨_, (pss_cons (ps_set (i := 2) sc_remark_end.nd rfl (Or.inl rfl) (pe_bm PySem.F.plainAttrs_str PySem.F.slot_str_find PySem.F.type_str_find mt_find3 (pv 0) (pa_cons pe_str (pa_cons (pv 1) pa_nil)))) (pss_one (ps_ret (pe_ifExp (pt_cmpR op_lt (pv 2) pe_int (nomark _)) (pe_callB call_len_str (by rfl) (b_len T) PySem.boot_len (pa_cons (pv 0) pa_nil)) (pv 2))))), ?_⟩)
  obtain ⟨b, i, rfl, hb, hi, q⟩ := h
  have e := find_line b i hi
  refine ⟨_, rfl, rfl, _, rfl, _, _, _, rfl, rfl, ?_⟩
  refine ⟨_, rfl, _, _, rfl, rfl, _, rfl, ?_⟩
  refine iteD (fun h1 => ?_) (fun h1 => ?_)
  · rw [if_pos h1] at e
    refine ⟨_, rfl, _, rfl, small (by rw [tx_len]; omega), ?_⟩
    rw [e]
    exact q
  · rw [if_neg h1] at e
    refine ⟨_, rfl, ?_⟩
    rw [e]
    exact q
theorem in_blanks (c : UInt8) : c.toNat ∈ ((" \t\n" : Str) ++ ("#" : Str)).cps.toList ↔ (isBlank c = true ∨ c = 35) := by
  have h := all_bytes (p := fun c => decide (c.toNat ∈ ((" \t\n" : Str) ++ ("#" : Str)).cps.toList) == (isBlank c || c == 35)) (by decide +kernel) c
  have e := eq_of_beq h
  constructor
  · intro z
    rw [decide_eq_true z] at e
    simpa using e.symm
  · intro z
    have e2 : (isBlank c || c == 35) = true := by simpa using z
    rw [e2] at e
    exact of_decide_eq_true e
theorem is_rem (c : UInt8) : (V.str ⟨#[c.toNat]⟩ = V.str "#") ↔ c = 35 := by
  have e : ("#" : Str) = ⟨#[(35 : UInt8).toNat]⟩ := by decide +kernel
  rw [e]
  constructor
  · intro h
    injection h with h
    injection h with h
    have h2 := congrArg Array.toList h
    injection h2 with h2
    exact UInt8.toNat_inj.mp h2
  · intro h
    rw [h]
abbrev N_behind_blanks : List Str := ["text", "at"]
abbrev P_behind_blanks : List Str := ["text", "at"]
theorem sc_behind_blanks : FnScope N_behind_blanks P_behind_blanks (defScope s_behind_blanks) := ⟨rfl, rfl, rfl, by decide +kernel, rfl, by decide +kernel, by decide +kernel⟩
def sp_behind_blanks : Sp := fun vs H Q _ => ∃ (b : Bytes) (i : Nat), vs = [.str (tx b), .int i] ∧ b.length ≤ 10000 ∧ i ≤ b.length ∧
  ∀ j, i ≤ j → j ≤ b.length → LX b i = LX b j → (∀ c, b[j]? = some c → isBlank c = false ∧ c ≠ 35) → Q (.int (j : Int)) H
theorem ok_behind_blanks (T : Tx K mg) (D_remark_end : Df P w K mg base CX0 1 (He.ga K "remark_end") P_remark_end sp_remark_end) : Df P w K mg base CX0 2 (He.ga K "behind_blanks") P_behind_blanks sp_behind_blanks := by
  refine df_mk (F_behind_blanks T) sc_behind_blanks (fun _ _ _ _ _ _ us hl => match us, hl with | [_, _], _ => rfl) (fun vs H Q E h => by obtain ⟨_, _, rfl, _⟩ := h; rfl) (fun cdv A outer s H vs Q E hr h => ⟨_, (pss_cons (ps_while PassesOwn.never (PW.pt (pw_and (pt_cmpR op_lt (pv 1) (pe_callB call_len_str (by rfl) (b_len T) PySem.boot_len (pa_cons (pv 0) pa_nil)) (nomark _)) (pw_and1 (pt_cmpR op_in_sign (pe_item_str (pv 0) (pv 1) (fun _ _ => rfl)) (pe_op op_add_str (pg (t_BLANKS T)) (pg (t_REMARK T))) rfl)))) (pss_one (ps_if (pt_cmpR op_eq (pe_item_str (pv 0) (pv 1) (fun _ _ => rfl)) (pg (t_REMARK T)) (nomark _)) (pss_one (ps_set (i := 1) sc_behind_blanks.nd rfl (Or.inl rfl) (pf D_remark_end (g_remark_end T) hr (pa_cons (pv 0) (pa_cons (pv 1) pa_nil))))) (pss_one (ps_aug (i := 1) sc_behind_blanks.nd rfl (Or.inl rfl) pe_int ip_add))))) (pss_one (ps_ret (pv 1)))), ?_⟩)
  obtain ⟨b, i, rfl, hb, hi, q⟩ := h
  refine ⟨fun m σ H' => ∃ j : Nat, m = b.length - j ∧ i ≤ j ∧ j ≤ b.length ∧ σ = [some (.str (tx b)), some (.int j)] ∧ H' = H ∧ LX b i = LX b j, ⟨_, i, rfl, Nat.le_refl _, hi, rfl, rfl, rfl⟩, ?_⟩
  rintro m σ H' ⟨j, rfl, hij, hj, rfl, rfl, e⟩
  refine ⟨_, rfl, _, rfl, _, rfl, small (by rw [tx_len]; omega), _, _, rfl, rfl, _, rfl, ?_⟩
  refine iteD (fun h1 => ?_) (fun h1 => ?_)
  · have hj' : j < b.length := by
      rw [tx_len] at h1
      omega
    obtain ⟨c, hc⟩ : ∃ c, b[j]? = some c := ⟨_, List.getElem?_eq_getElem hj'⟩
    refine ⟨_, rfl, _, rfl, _, _, _, rfl, rfl, by omega, by omega, h1, tx_at hc, _, _, rfl, rfl, (by decide +kernel), _, _, rfl, rfl, _, rfl, ?_⟩
    refine iteD (fun h2 => ?_) (fun h2 => ?_)
    · refine ⟨fun σ' H'' => ∃ k : Nat, j < k ∧ k ≤ b.length ∧ σ' = [some (.str (tx b)), some (.int (k : Int))] ∧ H'' = H' ∧ LX b i = LX b k, ?_, ?_⟩
      · rintro σ' H'' ⟨k, h3, h4, rfl, rfl, h5⟩
        exact ⟨_, by omega, k, rfl, by omega, h4, rfl, rfl, h5⟩
      refine ⟨_, rfl, _, rfl, _, _, _, rfl, rfl, by omega, by omega, h1, tx_at hc, rfl, _, rfl, ?_⟩
      refine iteD (fun h3 => ?_) (fun h3 => ?_)
      · have hc35 := (is_rem c).mp h3
        subst hc35
        have hr : 0 < remLen b j := by
          unfold remLen
          rw [drop_at hc, List.takeWhile_cons, if_pos (by decide), List.length_cons]
          omega
        have hr2 : j + remLen b j ≤ b.length := by
          have := (List.takeWhile_sublist (p := (· != (10 : UInt8))) (l := b.drop j)).length_le
          rw [List.length_drop] at this
          unfold remLen
          omega
        exact ⟨_, rfl, _, rfl, b, j, rfl, hb, hj, _, by omega, hr2, rfl, rfl, by rw [e, LX_rem hc]⟩
      · have hbl : isBlank c = true := by
          rcases (in_blanks c).mp h2 with z | z
          · exact z
          · exact absurd ((is_rem c).mpr z) h3
        exact ⟨_, rfl, _, _, rfl, rfl, j + 1, by omega, hj', rfl, rfl, by rw [e, LX_blank hc hbl]⟩
    · refine ⟨_, rfl, q j hij hj e fun c' hc' => ?_⟩
      rw [hc] at hc'
      cases hc'
      have n := mt (in_blanks c).mpr h2
      exact ⟨by cases z : isBlank c with | true => exact absurd (.inl z) n | false => rfl, fun z => n (.inr z)⟩
  · refine ⟨_, rfl, q j hij hj e fun c' hc' => ?_⟩
    have := (List.getElem?_eq_some_iff.mp hc').1
    rw [tx_len] at h1
    omega
end
end Vf

set_option Elab.async false
set_option linter.all false
set_option maxRecDepth 100000
set_option maxHeartbeats 4000000
/-! The tokens: names, numbers, signs, the whole text. -/
namespace Vf
open PySem PySem.Spec PyProof.Rows L2
open VakepBase (Bytes isBlank isLetter isDigit SIGNS token PTok Toks numberOf decimal RESERVED NAME NUMBER)
abbrev BTok := VakepBase.Tok
section
variable {P : Program} {w : World} {K : PySem.W.Frag} {mg : Str → Option Value} {base : Heap}
/-- the kind of a token -/
def kindOf : BTok → Str
  | .name b => if RESERVED.contains b = true then tx b else "name"
  | .num _ => "number"
  | .sign c => ⟨#[c]⟩
  | .last => "end"
/-- its text, of so many signs -/
def TextOk : BTok → Str → Prop
  | .name b, z => z = tx b
  | .num n, z => ∃ l, z = tx l ∧ numberOf l = some n ∧ ∀ c ∈ l, isDigit c = true
  | .sign c, z => z = ⟨#[c]⟩
  | .last, z => z = ""
/-- a token of this kind, text and place lies at p -/
def TokAt (K : PySem.W.Frag) (H : Hp) (p : Addr) (t : BTok) (z : Str) (i : Nat) : Prop := ∃ dx, H p = some (.ins (He.ga K "Token") dx (tokF (kindOf t) z i)) ∧ TextOk t z
theorem made_tok {H : Hp} {t : BTok} {z : Str} {i : Nat} {Q : VK} (hz : TextOk t z) (q : ∀ p H', Same H H' → H p = none → TokAt K H' p t z i → Q (.ref p) H') :
    ∀ x dx, H x = none → H dx = none → dx ≠ x → spToken (He.ga K "Token") (.ref x :: [.str (kindOf t), .str z, .int i]) (upd (upd H dx (.own x)) x (.ins (He.ga K "Token") dx [])) (fun v H2 => v = .non ∧ Q (.ref x) H2) (fun _ _ _ => False) := by
  intro x dx hx hd ne
  refine ⟨x, dx, _, _, _, rfl, upd_same, fun H' h1 h2 => ⟨rfl, q x H' (Same.made (C := He.ga K "Token") hx hd fun b o e n => ?_) hx ⟨dx, h1, hz⟩⟩⟩
  rw [h2 b n]
  exact e
theorem cut_tx (b : Bytes) (i j : Nat) (h1 : i ≤ j) (h2 : j ≤ b.length) : cutS (tx b) (some (i : Int)) (some (j : Int)) = tx ((b.drop i).take (j - i)) := by
  unfold cutS
  rw [tx_len, HT.sIx_nat, HT.sIx_nat, Nat.min_eq_left (by omega), Nat.min_eq_left (by omega), tx_list]
  unfold tx
  rw [List.map_take, List.map_drop]
theorem take_while_len {α : Type} (p : α → Bool) (l : List α) : l.take (l.takeWhile p).length = l.takeWhile p := by
  induction l with
  | nil => rfl
  | cons a r ih =>
    rw [List.takeWhile_cons]
    split
    · rw [List.length_cons, List.take_succ_cons, ih]
    · rfl
theorem tx_inj {a b : Bytes} (h : tx a = tx b) : a = b := by
  have h1 : a.map UInt8.toNat = b.map UInt8.toNat := by
    have := congrArg (fun z : Str => z.cps.toList) h
    exact this
  exact List.map_inj_right (fun _ _ z => UInt8.toNat_inj.mp z) |>.mp h1
theorem in_ld (c : UInt8) : c.toNat ∈ (("ABCDEFGHIJKLMNOPQRSTUVWXYZabcdefghijklmnopqrstuvwxyz" : Str) ++ ("0123456789" : Str)).cps.toList ↔ (isLetter c || isDigit c) = true := by
  have h := all_bytes (p := fun c => decide (c.toNat ∈ (("ABCDEFGHIJKLMNOPQRSTUVWXYZabcdefghijklmnopqrstuvwxyz" : Str) ++ ("0123456789" : Str)).cps.toList) == (isLetter c || isDigit c)) (by decide +kernel) c
  rw [← eq_of_beq h, decide_eq_true_eq]
theorem in_d (c : UInt8) : c.toNat ∈ ("0123456789" : Str).cps.toList ↔ isDigit c = true := by
  have h := all_bytes (p := fun c => decide (c.toNat ∈ ("0123456789" : Str).cps.toList) == isDigit c) (by decide +kernel) c
  rw [← eq_of_beq h, decide_eq_true_eq]
theorem in_l (c : UInt8) : c.toNat ∈ ("ABCDEFGHIJKLMNOPQRSTUVWXYZabcdefghijklmnopqrstuvwxyz" : Str).cps.toList ↔ isLetter c = true := by
  have h := all_bytes (p := fun c => decide (c.toNat ∈ ("ABCDEFGHIJKLMNOPQRSTUVWXYZabcdefghijklmnopqrstuvwxyz" : Str).cps.toList) == isLetter c) (by decide +kernel) c
  rw [← eq_of_beq h, decide_eq_true_eq]
theorem in_s (c : UInt8) : c.toNat ∈ ("+,:;{}" : Str).cps.toList ↔ SIGNS.contains c = true := by
  have h := all_bytes (p := fun c => decide (c.toNat ∈ ("+,:;{}" : Str).cps.toList) == SIGNS.contains c) (by decide +kernel) c
  rw [← eq_of_beq h, decide_eq_true_eq]
/-- a word's text -/
theorem tx_word (s : String) (h : tx (VakepBase.word s) = (Str.ofString s) := by decide +kernel) : tx (VakepBase.word s) = Str.ofString s := h
theorem eq_word (b : Bytes) (s : String) (h : tx (VakepBase.word s) = Str.ofString s) : eqV (.str (Str.ofString s)) (.str (tx b)) = (b == VakepBase.word s) := by
  rw [← h]
  show decide (tx (VakepBase.word s) = tx b) = _
  rw [Bool.eq_iff_iff, decide_eq_true_eq, beq_iff_eq]
  exact ⟨fun e => (tx_inj e).symm, fun e => by rw [e]⟩
theorem res_in (b : Bytes) : inV (.str (tx b)) (([.str "set", .str "part", .str "size", .str "start", .str "say", .str "call", .str "make", .str "when", .str "is"] : List He.Dv).map (He.Dv.v K)) = RESERVED.contains b := by
  show ([("set" : String), "part", "size", "start", "say", "call", "make", "when", "is"].map fun s => V.str (Str.ofString s)).any (fun y => eqV y (.str (tx b))) = ([("set" : String), "part", "size", "start", "say", "call", "make", "when", "is"].map VakepBase.word).contains b
  simp only [List.map_cons, List.map_nil, List.any_cons, List.any_nil, List.contains_cons, List.contains_nil]
  rw [eq_word b "set" (by decide +kernel), eq_word b "part" (by decide +kernel), eq_word b "size" (by decide +kernel), eq_word b "start" (by decide +kernel), eq_word b "say" (by decide +kernel), eq_word b "call" (by decide +kernel),
    eq_word b "make" (by decide +kernel), eq_word b "when" (by decide +kernel), eq_word b "is" (by decide +kernel)]
theorem res_tup (T : Tx K mg) (H : Hp) : SqT K H (He.ga K "RESERVED") (([.str "set", .str "part", .str "size", .str "start", .str "say", .str "call", .str "make", .str "when", .str "is"] : List He.Dv).map (He.Dv.v K)) := He.tupB_ok (e_0 T) H
theorem iteB {c : Bool} {A B : Prop} (h1 : c = true → A) (h2 : c = false → B) : if c = true then A else B := by
  cases c with
  | true => exact h1 rfl
  | false => exact h2 rfl
theorem sign_is (c k : UInt8) (z : Str) (e : z = ⟨#[k.toNat]⟩ := by decide +kernel) : (V.str ⟨#[c.toNat]⟩ = V.str z) ↔ c = k := by
  rw [e]
  constructor
  · intro h
    injection h with h
    injection h with h
    have h2 := congrArg Array.toList h
    injection h2 with h2
    exact UInt8.toNat_inj.mp h2
  · intro h
    rw [h]
theorem int_tx {l : Bytes} (h : ∀ c ∈ l, isDigit c = true) (h1 : l ≠ []) (h2 : l.length ≤ 4300) : PySem.intText? (tx l) = some ((decimal l : Nat) : Int) := by
  have e := PySem.intText_digits (x := tx l) ?_ ?_ (by rw [tx_len]; exact h2)
  · rw [e]
    have : ∀ (l : Bytes) (a : Nat), (l.map UInt8.toNat).foldl (fun acc c => acc * 10 + (c - 48)) a = l.foldl (fun n b => 10 * n + (b.toNat - 48)) a := by
      intro l
      induction l with
      | nil => intro a; rfl
      | cons c r ih =>
        intro a
        rw [List.map_cons, List.foldl_cons, List.foldl_cons, ih, Nat.mul_comm]
    have e2 : PySem.NumText.digitsVal (tx l).cps.toList = decimal l := this l 0
    rw [e2]
  · intro c hc
    rw [tx_list] at hc
    obtain ⟨b, hb, rfl⟩ := List.mem_map.mp hc
    have := h b hb
    unfold isDigit at this
    exact of_decide_eq_true this
  · rw [tx_list]
    exact fun z => h1 (List.map_eq_nil_iff.mp z)
theorem iteAnd {c : Prop} [Decidable c] {A B : Prop} (Z : Prop) (rest : Z → B) (h1 : c → (Z → B) → A) (h2 : ¬c → Z) : if decide c = true then A else B :=
  iteD (fun h => h1 h rest) (fun h => rest (h2 h))
abbrev N_name_at : List Str := ["text", "at", "word"]
abbrev P_name_at : List Str := ["text", "at"]
theorem sc_name_at : FnScope N_name_at P_name_at (defScope s_name_at) := ⟨rfl, rfl, rfl, by decide +kernel, rfl, by decide +kernel, by decide +kernel⟩
def sp_name_at (K : PySem.W.Frag) : Sp := fun vs H Q E => ∃ (b : Bytes) (i : Nat) (c : UInt8), vs = [.str (tx b), .int i] ∧ b.length ≤ 10000 ∧ b[i]? = some c ∧ isLetter c = true ∧
  (token (b.drop i) = none → ∀ d, H d = none → E (.ref (He.ga K "Fault")) (some d) (upd H d (.xd [("place", .int i), ("code", .int 2)]))) ∧
  (∀ t k, token (b.drop i) = some (t, k) → ∀ p z H', Same H H' → H p = none → z.length = k → TokAt K H' p t z i → Q (.ref p) H')
theorem ok_name_at (T : Tx K mg) (D_Token_init : Df P w K mg base CX0 (1) (He.ma K (He.ga K "Token") "__init__") P_Token_init (spToken (He.ga K "Token"))) (D_Fault_init : Df P w K mg base CX0 (1) (He.ma K (He.ga K "Fault") "__init__") P_Fault_init (spFault (He.ga K "Fault"))) (D_run_end : Df P w K mg base CX0 (1) (He.ga K "run_end") P_run_end sp_run_end) : Df P w K mg base (L2.CX P w) (3) (He.ga K "name_at") P_name_at (sp_name_at K) := by
  refine dfx_mk (F_name_at T) sc_name_at (fun _ _ _ _ _ _ us hl => match us, hl with | [_, _], _ => rfl) (fun vs H Q E h => by obtain ⟨_, _, _, rfl, _⟩ := h; rfl) (fun cdv A outer s H vs Q E hr h => ⟨_, (pss_cons (ps_set (i := 2) sc_name_at.nd rfl (Or.inl rfl) (pe_slice sl_str (pv 0) (po_some (pv 1)) (po_some (pf D_run_end (g_run_end T) hr (pa_cons (pv 0) (pa_cons (pv 1) (pa_cons (pe_op op_add_str (pg (t_LETTERS T)) (pg (t_DIGITS T))) pa_nil))))))) (pss_cons (ps_if (pt_cmpR op_gt (pe_callB call_len_str (by rfl) (b_len T) PySem.boot_len (pa_cons (pv 2) pa_nil)) (pg (i_LONGEST_NAME T)) (nomark _)) (pss_one (ps_raise rfl (takes_of rfl rfl rfl rfl) (pfault D_Fault_init (ecl_of (e_2 T)) (of_decide_eq_true (e_6 T)) (of_decide_eq_true (e_7 T)) (g_Fault T) hr (pa_cons (pg (i_NO_TOKEN T)) (pa_cons (pv 1) pa_nil))))) pss_nil) (pss_one (ps_ret (pk D_Token_init (k_Token T) (g_Token T) hr (pa_cons (pe_ifExp (pt_cmpR op_in_seq (pv 2) (pgo (g_RESERVED T)) (by rfl)) (pv 2) (pg (t_NAME T))) (pa_cons (pv 2) (pa_cons (pv 1) pa_nil)))))))), ?_⟩)
  obtain ⟨b, i, c, rfl, hb, hc, hl, qe, q⟩ := h
  have hi : i < b.length := (List.getElem?_eq_some_iff.mp hc).1
  have hd := drop_get hc
  generalize hw : (b.drop i).takeWhile (fun c => isLetter c || isDigit c) = l at *
  have hlen : i + l.length ≤ b.length := by
    have := (List.takeWhile_sublist (p := fun c => isLetter c || isDigit c) (l := b.drop i)).length_le
    rw [hw, List.length_drop] at this
    omega
  have htok : token (b.drop i) = if NAME < l.length then none else some (.name l, l.length) := by
    rw [hd] at hw ⊢
    unfold token
    dsimp only
    rw [if_pos hl, hw]
  refine ⟨_, rfl, _, rfl, ?_⟩
  refine ⟨_, rfl, _, rfl, _, rfl, _, _, rfl, rfl, (by decide +kernel), ?_⟩
  refine ⟨b, i, _, rfl, hb, Nat.le_of_lt hi, (fun c => isLetter c || isDigit c), in_ld, ?_⟩
  rw [hw]
  refine ⟨_, rfl, _, rfl, small (by rw [tx_len]; omega), ?_⟩
  rw [cut_tx b i (i + l.length) (by omega) hlen, Nat.add_sub_cancel_left, ← hw, take_while_len, hw]
  refine ⟨_, rfl, _, rfl, small (by rw [tx_len]; omega), _, _, rfl, rfl, _, rfl, ?_⟩
  refine iteD (fun h1 => ?_) (fun h1 => ?_)
  · refine ⟨_, rfl, born fun d hd => ?_⟩
    refine qe ?_ d hd
    rw [htok, if_pos]
    rw [tx_len] at h1
    show 16 < l.length
    omega
  · refine ⟨_, rfl, _, _, rfl, .inr (res_tup T _), rfl, rfl, ?_⟩
    rw [tx_len] at h1
    have e := htok
    rw [if_neg (by show ¬ 16 < l.length; omega)] at e
    refine ⟨_, rfl, ?_⟩
    have fin : ∀ k, k = kindOf (.name l) → ∀ x dx, H x = none → H dx = none → dx ≠ x → spToken (He.ga K "Token") (.ref x :: [.str k, .str (tx l), .int i]) (upd (upd H dx (.own x)) x (.ins (He.ga K "Token") dx [])) (fun v H2 => v = .non ∧ Q (.ref x) H2) (fun _ _ _ => False) := by
      rintro k rfl
      exact made_tok rfl fun p H' a n t => q _ _ e p _ H' a n (tx_len l) t
    refine iteB (fun h2 => ?_) (fun h2 => ?_)
    · refine ⟨_, rfl, _, rfl, _, rfl, fin _ ?_⟩
      have h3 : RESERVED.contains l = true := by
        rw [← res_in (K := K)]
        exact h2
      show _ = if _ then _ else _
      rw [if_pos h3]
    · refine ⟨_, rfl, _, rfl, fin _ ?_⟩
      have h3 : RESERVED.contains l = false := by
        rw [← res_in (K := K)]
        exact h2
      show _ = if _ then _ else _
      rw [if_neg (by rw [h3]; decide)]
abbrev N_number_at : List Str := ["text", "at", "digits"]
abbrev P_number_at : List Str := ["text", "at"]
theorem sc_number_at : FnScope N_number_at P_number_at (defScope s_number_at) := ⟨rfl, rfl, rfl, by decide +kernel, rfl, by decide +kernel, by decide +kernel⟩
def sp_number_at (K : PySem.W.Frag) : Sp := fun vs H Q E => ∃ (b : Bytes) (i : Nat) (c : UInt8), vs = [.str (tx b), .int i] ∧ b.length ≤ 10000 ∧ b[i]? = some c ∧ isLetter c = false ∧ isDigit c = true ∧
  (token (b.drop i) = none → ∀ d, H d = none → E (.ref (He.ga K "Fault")) (some d) (upd H d (.xd [("place", .int i), ("code", .int 2)]))) ∧
  (∀ t k, token (b.drop i) = some (t, k) → ∀ p z H', Same H H' → H p = none → z.length = k → TokAt K H' p t z i → Q (.ref p) H')
theorem ok_number_at (T : Tx K mg) (D_Token_init : Df P w K mg base CX0 (1) (He.ma K (He.ga K "Token") "__init__") P_Token_init (spToken (He.ga K "Token"))) (D_Fault_init : Df P w K mg base CX0 (1) (He.ma K (He.ga K "Fault") "__init__") P_Fault_init (spFault (He.ga K "Fault"))) (D_run_end : Df P w K mg base CX0 (1) (He.ga K "run_end") P_run_end sp_run_end) : Df P w K mg base (L2.CX P w) (3) (He.ga K "number_at") P_number_at (sp_number_at K) := by
  refine dfx_mk (F_number_at T) sc_number_at (fun _ _ _ _ _ _ us hl => match us, hl with | [_, _], _ => rfl) (fun vs H Q E h => by obtain ⟨_, _, _, rfl, _⟩ := h; rfl) (fun cdv A outer s H vs Q E hr h => ⟨_, (pss_cons (ps_set (i := 2) sc_number_at.nd rfl (Or.inl rfl) (pe_slice sl_str (pv 0) (po_some (pv 1)) (po_some (pf D_run_end (g_run_end T) hr (pa_cons (pv 0) (pa_cons (pv 1) (pa_cons (pg (t_DIGITS T)) pa_nil))))))) (pss_cons (ps_if (PW.pt (pw_and (pt_cmpR op_eq (pe_item_str (pv 2) pe_int (fun _ _ => rfl)) pe_str (nomark _)) (pw_and1 (pt_cmpR op_gt (pe_callB call_len_str (by rfl) (b_len T) PySem.boot_len (pa_cons (pv 2) pa_nil)) pe_int (nomark _))))) (pss_one (ps_raise rfl (takes_of rfl rfl rfl rfl) (pfault D_Fault_init (ecl_of (e_2 T)) (of_decide_eq_true (e_6 T)) (of_decide_eq_true (e_7 T)) (g_Fault T) hr (pa_cons (pg (i_NO_TOKEN T)) (pa_cons (pv 1) pa_nil))))) pss_nil) (pss_cons (ps_if (PW.pt (pw_or (pt_cmpR op_gt (pe_callB call_len_str (by rfl) (b_len T) PySem.boot_len (pa_cons (pv 2) pa_nil)) (pg (i_MOST_DIGITS T)) (nomark _)) (pw_or1 (pt_cmpR op_gt (pe_callTy call_int_str (by rfl) (b_int T) (by decide +kernel) (pa_cons (pv 2) pa_nil)) (pg (i_GREATEST_NUMBER T)) (nomark _))))) (pss_one (ps_raise rfl (takes_of rfl rfl rfl rfl) (pfault D_Fault_init (ecl_of (e_2 T)) (of_decide_eq_true (e_6 T)) (of_decide_eq_true (e_7 T)) (g_Fault T) hr (pa_cons (pg (i_NO_TOKEN T)) (pa_cons (pv 1) pa_nil))))) pss_nil) (pss_one (ps_ret (pk D_Token_init (k_Token T) (g_Token T) hr (pa_cons (pg (t_NUMBER T)) (pa_cons (pv 2) (pa_cons (pv 1) pa_nil))))))))), ?_⟩)
  obtain ⟨b, i, c, rfl, hb, hc, hnl, hl, qe, q⟩ := h
  have hi : i < b.length := (List.getElem?_eq_some_iff.mp hc).1
  have hd := drop_get hc
  generalize hw : (b.drop i).takeWhile isDigit = l at *
  have hlen : i + l.length ≤ b.length := by
    have := (List.takeWhile_sublist (p := isDigit) (l := b.drop i)).length_le
    rw [hw, List.length_drop] at this
    omega
  have hall : ∀ c ∈ l, isDigit c = true := by
    rw [← hw]
    exact fun c h => List.all_eq_true.mp List.all_takeWhile c h
  have hl1 : ∃ r, l = c :: r := by
    rw [hd, List.takeWhile_cons, if_pos hl] at hw
    exact ⟨_, hw.symm⟩
  obtain ⟨r, hr1⟩ := hl1
  have htok : token (b.drop i) = (numberOf l).map fun n => (.num n, l.length) := by
    rw [hd] at hw ⊢
    unfold token
    dsimp only
    rw [if_neg (by rw [hnl]; decide), if_pos hl, hw]
  have hmk : ∀ n, numberOf l = some n → ∀ x dx, H x = none → H dx = none → dx ≠ x → spToken (He.ga K "Token") (.ref x :: [.str "number", .str (tx l), .int i]) (upd (upd H dx (.own x)) x (.ins (He.ga K "Token") dx [])) (fun v H2 => v = .non ∧ Q (.ref x) H2) (fun _ _ _ => False) := by
    intro n e
    exact made_tok (t := .num n) ⟨l, rfl, e, hall⟩ fun p H' a n' t => q _ _ (by rw [htok, e] <;> rfl) p _ H' a n' (tx_len l) t
  have hbad : numberOf l = none → ∀ d, H d = none → E (.ref (He.ga K "Fault")) (some d) (upd H d (.xd [("place", .int i), ("code", .int 2)])) := fun e => qe (by rw [htok, e] <;> rfl)
  refine ⟨_, rfl, _, rfl, _, rfl, _, rfl, _, rfl, ?_⟩
  refine ⟨b, i, _, rfl, hb, Nat.le_of_lt hi, isDigit, in_d, ?_⟩
  rw [hw]
  refine ⟨_, rfl, _, rfl, small (by rw [tx_len]; omega), ?_⟩
  rw [cut_tx b i (i + l.length) (by omega) hlen, Nat.add_sub_cancel_left, ← hw, take_while_len, hw]
  have hlt : (tx l).length = l.length := tx_len l
  have hl0 : l[0]? = some c := by rw [hr1] <;> rfl
  refine ⟨_, rfl, _, _, _, rfl, rfl, by decide, by decide, by rw [hlt, hr1]; simp, tx_at hl0, rfl, _, rfl, ?_⟩
  have hnum : numberOf l = if l = [] ∨ 10 < l.length ∨ (1 < l.length ∧ l.head? = some 48) ∨ NUMBER < decimal l then none else some (decimal l) := rfl
  have hne : l ≠ [] := by
    rw [hr1]
    exact fun z => nomatch z
  have hhd : l.head? = some 48 ↔ c = 48 := by
    rw [hr1]
    exact ⟨fun z => Option.some.inj z, fun z => congrArg some z⟩
  refine iteAnd (¬ (c = 48 ∧ 1 < l.length)) (fun hz => ?_) (fun h1 rest => ?_) (fun h1 z => h1 ((sign_is c 48 "0").mpr z.1))
  · refine ⟨_, rfl, _, rfl, small (by rw [hlt]; omega), _, _, rfl, rfl, _, rfl, ?_⟩
    refine iteD (fun h1 => ?_) (fun h1 => ?_)
    · refine ⟨_, rfl, born (hbad ?_)⟩
      rw [hlt] at h1
      rw [hnum, if_pos (.inr (.inl (by omega)))]
    · rw [hlt] at h1
      refine ⟨_, rfl, _, _, rfl, int_tx hall hne (by omega), by rw [hlt]; omega, _, _, rfl, rfl, _, rfl, ?_⟩
      refine iteD (fun h2 => ?_) (fun h2 => ?_)
      · refine ⟨_, rfl, born (hbad ?_)⟩
        rw [hnum, if_pos (.inr (.inr (.inr (by show 1000000000 < decimal l; omega))))]
      · refine ⟨_, rfl, _, rfl, hmk (decimal l) ?_⟩
        rw [hnum, if_neg]
        rintro (z | z | z | z)
        · exact hne z
        · omega
        · exact hz ⟨hhd.mp z.2, z.1⟩
        · have : 1000000000 < decimal l := z
          omega
  · refine ⟨_, rfl, _, rfl, small (by rw [hlt]; omega), _, _, rfl, rfl, _, rfl, ?_⟩
    refine iteD (fun h2 => ?_) (fun h2 => ?_)
    · refine ⟨_, rfl, born (hbad ?_)⟩
      rw [hlt] at h2
      rw [hnum, if_pos (.inr (.inr (.inl ⟨by omega, hhd.mpr ((sign_is c 48 "0").mp h1)⟩)))]
    · rw [hlt] at h2
      exact rest (fun z => h2 (by omega))
end
end Vf

set_option Elab.async false
set_option linter.all false
set_option maxRecDepth 100000
set_option maxHeartbeats 4000000
/-! One token, the bytes as a text, all tokens. -/
namespace Vf
open PySem PySem.Spec PyProof.Rows L2
open VakepBase (Bytes isBlank isLetter isDigit SIGNS token PTok Toks numberOf decimal RESERVED NAME NUMBER)
section
variable {P : Program} {w : World} {K : PySem.W.Frag} {mg : Str → Option Value} {base : Heap}
theorem sign_kinds (c : UInt8) : SIGNS.contains c = true → isLetter c = false ∧ isDigit c = false := by
  have h := all_bytes (p := fun c => !SIGNS.contains c || (!isLetter c && !isDigit c)) (by decide +kernel) c
  intro z
  rw [z] at h
  simpa using h
theorem digit_kinds (c : UInt8) : isDigit c = true → isLetter c = false := by
  have h := all_bytes (p := fun c => !isDigit c || !isLetter c) (by decide +kernel) c
  intro z
  rw [z] at h
  simpa using h
theorem bfalse {b : Bool} (h : ¬ b = true) : b = false := by
  cases b with
  | true => exact absurd rfl h
  | false => rfl
theorem same_upd {H H1 : Hp} {D : Addr} {o : HO} (s : Same H H1) (n : H D = none) : Same H (upd H1 D o) := fun p o' e => by
  rw [upd_ne (ne_of_none e n)]
  exact s _ _ e
theorem sum_ones {α : Type} (l : List α) : (l.map fun _ => 1).sum = l.length := by
  induction l with
  | nil => rfl
  | cons a r ih =>
    rw [List.map_cons, List.sum_cons, ih, List.length_cons, Nat.add_comm]
/-- these tokens lie there, one behind the other -/
inductive ToksAt (K : PySem.W.Frag) (H : Hp) : List Addr → Toks → Prop where
  | nil : ToksAt K H [] []
  | cons {p : Addr} {ps : List Addr} {t : PTok} {ts : Toks} {z : Str} (h : TokAt K H p t.tok z t.place) (r : ToksAt K H ps ts) : ToksAt K H (p :: ps) (t :: ts)
theorem ToksAt.mono {K : PySem.W.Frag} {H H' : Hp} (s : ∀ b C dx fs, H b = some (.ins C dx fs) → H' b = some (.ins C dx fs)) : ∀ {ps : List Addr} {ts : Toks}, ToksAt K H ps ts → ToksAt K H' ps ts
  | _, _, .nil => .nil
  | _, _, .cons (z := z) ⟨dx, e, k⟩ r => .cons (z := z) ⟨dx, s _ _ _ _ e, k⟩ (r.mono s)
theorem ToksAt.app {K : PySem.W.Frag} {H : Hp} : ∀ {ps qs : List Addr} {ts us : Toks}, ToksAt K H ps ts → ToksAt K H qs us → ToksAt K H (ps ++ qs) (ts ++ us)
  | _, _, _, _, .nil, h => h
  | _, _, _, _, .cons k r, h => .cons k (r.app h)
abbrev N_token_at : List Str := ["text", "at", "sign"]
abbrev P_token_at : List Str := ["text", "at"]
theorem sc_token_at : FnScope N_token_at P_token_at (defScope s_token_at) := ⟨rfl, rfl, rfl, by decide +kernel, rfl, by decide +kernel, by decide +kernel⟩
def sp_token_at (K : PySem.W.Frag) : Sp := fun vs H Q E => ∃ (b : Bytes) (i : Nat), vs = [.str (tx b), .int i] ∧ b.length ≤ 10000 ∧ i < b.length ∧
  (token (b.drop i) = none → ∀ d, H d = none → E (.ref (He.ga K "Fault")) (some d) (upd H d (.xd [("place", .int i), ("code", .int 2)]))) ∧
  (∀ t k, token (b.drop i) = some (t, k) → ∀ p z H', Same H H' → H p = none → z.length = k → TokAt K H' p t z i → Q (.ref p) H')
theorem ok_token_at (T : Tx K mg) (D_Token_init : Df P w K mg base CX0 (1) (He.ma K (He.ga K "Token") "__init__") P_Token_init (spToken (He.ga K "Token"))) (D_Fault_init : Df P w K mg base CX0 (1) (He.ma K (He.ga K "Fault") "__init__") P_Fault_init (spFault (He.ga K "Fault"))) (D_number_at : Df P w K mg base (L2.CX P w) (3) (He.ga K "number_at") P_number_at (sp_number_at K)) (D_name_at : Df P w K mg base (L2.CX P w) (3) (He.ga K "name_at") P_name_at (sp_name_at K)) : Df P w K mg base (L2.CX P w) (4) (He.ga K "token_at") P_token_at (sp_token_at K) := by
  refine dfx_mk (F_token_at T) sc_token_at (fun _ _ _ _ _ _ us hl => match us, hl with | [_, _], _ => rfl) (fun vs H Q E h => by obtain ⟨_, _, rfl, _⟩ := h; rfl) (fun cdv A outer s H vs Q E hr h => ⟨_, (pss_cons (ps_set (i := 2) sc_token_at.nd rfl (Or.inl rfl) (pe_item_str (pv 0) (pv 1) (fun _ _ => rfl))) (pss_cons (ps_if (pt_cmpR op_in_sign (pv 2) (pg (t_SIGNS T)) rfl) (pss_one (ps_ret (pk D_Token_init (k_Token T) (g_Token T) hr (pa_cons (pv 2) (pa_cons (pv 2) (pa_cons (pv 1) pa_nil)))))) pss_nil) (pss_cons (ps_if (pt_cmpR op_in_sign (pv 2) (pg (t_DIGITS T)) rfl) (pss_one (ps_ret (pfx D_number_at (g_number_at T) (takes_of rfl rfl rfl rfl) hr (pa_cons (pv 0) (pa_cons (pv 1) pa_nil))))) pss_nil) (pss_cons (ps_if (pt_cmpR op_in_sign (pv 2) (pg (t_LETTERS T)) rfl) (pss_one (ps_ret (pfx D_name_at (g_name_at T) (takes_of rfl rfl rfl rfl) hr (pa_cons (pv 0) (pa_cons (pv 1) pa_nil))))) pss_nil) (pss_one (ps_raise rfl (takes_of rfl rfl rfl rfl) (pfault D_Fault_init (ecl_of (e_2 T)) (of_decide_eq_true (e_6 T)) (of_decide_eq_true (e_7 T)) (g_Fault T) hr (pa_cons (pg (i_NO_TOKEN T)) (pa_cons (pv 1) pa_nil))))))))), ?_⟩)
  obtain ⟨b, i, rfl, hb, hi, qe, q⟩ := h
  obtain ⟨c, hc⟩ : ∃ c, b[i]? = some c := ⟨_, List.getElem?_eq_getElem hi⟩
  have hd := drop_get hc
  have hlt : (tx b).length = b.length := tx_len b
  have htok : token (b.drop i) = token (c :: b.drop (i + 1)) := by rw [hd]
  refine ⟨_, rfl, _, rfl, _, _, _, rfl, rfl, by omega, by omega, by omega, tx_at hc, ?_⟩
  refine ⟨_, rfl, _, _, rfl, rfl, _, rfl, ?_⟩
  refine iteD (fun h1 => ?_) (fun h1 => ?_)
  · have hs := (in_s c).mp h1
    obtain ⟨hl, hg⟩ := sign_kinds c hs
    have e : token (b.drop i) = some (.sign c.toNat, 1) := by
      rw [htok]
      unfold token
      dsimp only
      rw [if_neg (by rw [hl]; decide), if_neg (by rw [hg]; decide), if_pos hs]
    exact ⟨_, rfl, _, rfl, _, rfl, made_tok (t := .sign c.toNat) rfl fun p H' a n t => q _ _ e p _ H' a n rfl t⟩
  · have hs : SIGNS.contains c = false := bfalse (mt (in_s c).mpr h1)
    refine ⟨_, rfl, _, _, rfl, rfl, _, rfl, ?_⟩
    refine iteD (fun h2 => ?_) (fun h2 => ?_)
    · have hg := (in_d c).mp h2
      exact ⟨_, rfl, _, rfl, b, i, c, rfl, hb, hc, digit_kinds c hg, hg, qe, q⟩
    · have hg : isDigit c = false := bfalse (mt (in_d c).mpr h2)
      refine ⟨_, rfl, _, _, rfl, rfl, _, rfl, ?_⟩
      refine iteD (fun h3 => ?_) (fun h3 => ?_)
      · have hl := (in_l c).mp h3
        exact ⟨_, rfl, _, rfl, b, i, c, rfl, hb, hc, hl, qe, q⟩
      · have hl : isLetter c = false := bfalse (mt (in_l c).mpr h3)
        refine ⟨_, rfl, born (qe ?_)⟩
        rw [htok]
        unfold token
        dsimp only
        rw [if_neg (by rw [hl]; decide), if_neg (by rw [hg]; decide), if_neg (by rw [hs]; decide)]
/-- the signs that have a meaning -/
def SG : Str := ((((" \t\n" : Str) ++ ("#" : Str)) ++ ("+,:;{}" : Str)) ++ ("0123456789" : Str)) ++ ("ABCDEFGHIJKLMNOPQRSTUVWXYZabcdefghijklmnopqrstuvwxyz" : Str)
def sgTab (l : List Nat) : List (Key × V) := l.foldl (fun kvs (c : Nat) => putK kvs (Sum.inl (c : Int)) (.str ⟨#[c]⟩)) []
theorem sgTab_len (l : List Nat) : (sgTab l).length ≤ l.length := by
  have : ∀ (l : List Nat) (t : List (Key × V)), (l.foldl (fun kvs (c : Nat) => putK kvs (Sum.inl (c : Int)) (.str ⟨#[c]⟩)) t).length ≤ t.length + l.length := by
    intro l
    induction l with
    | nil => intro t; exact Nat.le_refl _
    | cons c r ih =>
      intro t
      rw [List.foldl_cons, List.length_cons]
      refine Nat.le_trans (ih _) ?_
      have : (putK t (Sum.inl (c : Int) : Key) (.str ⟨#[c]⟩)).length ≤ t.length + 1 := by
        unfold putK
        split
        · rw [List.length_map]
          omega
        · rw [List.length_append]
          exact Nat.le_refl _
      omega
  have := this l []
  unfold sgTab
  simpa using this
theorem sgTab_at (c : UInt8) : (valV (sgTab SG.cps.toList) (Sum.inl ((c.toNat : Nat) : Int) : Key)).getD (.str "?") = .str ⟨#[(san c).toNat]⟩ := by
  have h := all_bytes (p := fun c => decide ((valV (sgTab SG.cps.toList) (Sum.inl ((c.toNat : Nat) : Int) : Key)).getD (.str "?") = .str ⟨#[(san c).toNat]⟩)) (by decide +kernel) c
  exact of_decide_eq_true h
theorem join_ones (l : Bytes) : Txt.join "" (l.map fun c => (⟨#[c.toNat]⟩ : Str)) = tx l := by
  have e : (l.map fun c => (⟨#[c.toNat]⟩ : Str)) = (l.map fun c => [c.toNat]).map SX.S := by
    rw [List.map_map] <;> rfl
  have e0 : ("" : Str) = SX.S [] := by decide +kernel
  rw [e, e0, SX.join_S]
  have : ∀ l : Bytes, TL.joinL [] (l.map fun c => [c.toNat]) = l.map UInt8.toNat := by
    intro l
    induction l with
    | nil => rfl
    | cons c r ih => cases r with
      | nil => rfl
      | cons d r =>
        show [c.toNat] ++ ([] ++ TL.joinL [] ((d :: r).map fun c => [c.toNat])) = _
        rw [ih] <;> rfl
  rw [this] <;> rfl
abbrev N_as_text : List Str := ["codes", "sign_of", "sign", "code"]
abbrev P_as_text : List Str := ["codes"]
theorem sc_as_text : FnScope N_as_text P_as_text (defScope s_as_text) := ⟨rfl, rfl, rfl, by decide +kernel, rfl, by decide +kernel, by decide +kernel⟩
def sp_as_text (K : PySem.W.Frag) : Sp := fun vs H Q _ => ∃ (a : Addr) (b : Bytes), vs = [.ref a] ∧ b.length ≤ 10000 ∧ SqL K H a (b.map fun c => V.int c.toNat) ∧
  ∀ H', Same H H' → Q (.str (tx (b.map san))) H'
theorem ok_as_text (T : Tx K mg) : Df P w K mg base CX0 (1) (He.ga K "as_text") P_as_text (sp_as_text K) := by
  refine df_mk (F_as_text T) sc_as_text (fun _ _ _ _ _ _ us hl => match us, hl with | [_], _ => rfl) (fun vs H Q E h => by obtain ⟨_, _, rfl, _⟩ := h; rfl) (fun cdv A outer s H vs Q E hr h => ⟨_, (pss_cons (ps_set (i := 1) sc_as_text.nd rfl (Or.inr rfl) pe_dnewK) (pss_cons (ps_for PassesOwn.never rfl (pi_str (pe_op op_add_str (pe_op op_add_str (pe_op op_add_str (pe_op op_add_str (pg (t_BLANKS T)) (pg (t_REMARK T))) (pg (t_SIGNS T))) (pg (t_DIGITS T))) (pg (t_LETTERS T)))) (pg_name (i := 2) sc_as_text.nd rfl (Or.inl rfl)) (pss_one (ps_dput (hu_of hr) (pv 1) (pe_callB call_ord (by rfl) (b_ord T) (by decide +kernel) (pa_cons (pv 2) pa_nil)) (pv 2) rfl))) (pss_one (ps_ret (pe_join pe_str (pe_lc rfl sc_as_text.nd (own := [("code", 3)]) (pi_list (pv 0)) (blkOk_by (own := [("code", 3)]) (N := N_as_text) (sc := defScope s_as_text) (by decide +kernel)) (fun _ _ _ _ _ => pg_name (i := 3) sc_as_text.nd rfl (Or.inl rfl)) (fun _ _ _ _ _ => pts_nil) (fun _ _ _ _ _ => (pe_dget2 (hu_of hr) (pv 1) (pv 3) pe_str ⟨rfl, rfl, rfl, rfl⟩)))))))), ?_⟩)
  obtain ⟨a, b, rfl, hb, ha, q⟩ := h
  intro d hd
  refine ⟨_, _, rfl, rfl, (by decide +kernel), _, _, rfl, rfl, (by decide +kernel), _, _, rfl, rfl, (by decide +kernel), _, _, rfl, rfl, (by decide +kernel), _, rfl, ?_⟩
  refine for_it walk_str (fun i σ H' => ∃ x, σ = [some (.ref a), some (.ref d), x, none] ∧ H' = upd H d (.dK (sgTab (SG.cps.toList.take i)))) ⟨none, rfl, rfl⟩ (fun _ _ _ _ _ => trivial) ?_ ?_
  · rintro i x σ H1 H2 hi ⟨y, rfl, rfl⟩ ⟨rfl, c, hc, rfl⟩
    have ht : (SG.cps.toList.take i).length ≤ 1000 := by
      rw [List.length_take]
      have : SG.cps.toList.length ≤ 1000 := by decide +kernel
      omega
    refine ⟨_, rfl, _, rfl, _, rfl, _, rfl, rfl, d, _, rfl, DPut.k (k := Sum.inl (c : Int)) upd_same (Nat.lt_of_le_of_lt (Nat.le_trans (sgTab_len _) ht) (by decide)), _, rfl, ?_⟩
    rw [upd_upd]
    have hc' : SG.cps.toList[i]? = some c := by
      rw [Array.getElem?_toList]
      exact hc
    rw [List.take_add_one, hc']
    show _ = upd H d (.dK (sgTab (SG.cps.toList.take i ++ [c])))
    unfold sgTab
    rw [List.foldl_append] <;> rfl
  · rintro σ H1 ⟨y, rfl, rfl⟩
    rw [List.take_of_length_le (by exact Nat.le_refl _)]
    have s0 : Same H (upd H d (.dK (sgTab SG.cps.toList))) := fun p o e => by
      rw [upd_ne (ne_of_none e hd)]
      exact e
    refine ⟨⟨_, rfl⟩, _, rfl, a, rfl, ⟨_, s0.seq ha⟩, fun D hD => ?_⟩
    refine lc_it walk_list (fun i H2 => Same (upd H d (.dK (sgTab SG.cps.toList))) H2 ∧ H2 D = some (.lst ((b.take i).map fun c => V.str ⟨#[(san c).toNat]⟩))) ⟨fun p o e => by rw [upd_ne (ne_of_none e hD)]; exact e, upd_same⟩ (fun i H2 _ h => (s0.trans h.1).seq ha) ?_ ?_
    · rintro i x H2 H3 hi ⟨h1, h2⟩ ⟨rfl, hx⟩
      rw [List.getElem?_map] at hx
      obtain ⟨c, hc, rfl⟩ := Option.map_eq_some_iff.mp hx
      have hd3 := h1 d _ upd_same
      refine ⟨rfl, _, rfl, d, rfl, .inl ⟨_, .inl hd3⟩, _, rfl, _, DGet.k (k := Sum.inl ((c.toNat : Nat) : Int)) hd3, _, h2, ?_, same_upd h1 hD, ?_⟩
      · rw [List.length_map, List.length_take]
        exact Nat.lt_of_le_of_lt (Nat.min_le_right _ _) (Nat.lt_of_le_of_lt hb (by decide))
      · rw [upd_same, sgTab_at, List.take_add_one, hc, Option.toList, List.map_append] <;> rfl
    · rintro H2 ⟨h1, h2⟩
      rw [List.length_map, List.take_length] at h2
      refine ⟨_, _, (b.map san).map (fun c => (⟨#[c.toNat]⟩ : Str)), rfl, rfl, .inl (SqL.of ?_), ?_, ?_⟩
      · rw [h2, List.map_map, List.map_map] <;> rfl
      · rw [List.map_map, show ("" : Str).length = 0 by decide +kernel, Nat.mul_zero, Nat.add_zero]
        show ((b.map san).map fun _ => 1).sum ≤ _
        rw [sum_ones, List.length_map]
        omega
      · rw [join_ones]
        exact q _ (s0.trans h1)
abbrev N_tokens_of : List Str := ["codes", "text", "tokens", "at", "token"]
abbrev P_tokens_of : List Str := ["codes"]
theorem sc_tokens_of : FnScope N_tokens_of P_tokens_of (defScope s_tokens_of) := ⟨rfl, rfl, rfl, by decide +kernel, rfl, by decide +kernel, by decide +kernel⟩
def sp_tokens_of (K : PySem.W.Frag) : Sp := fun vs H Q E => ∃ (a : Addr) (b : Bytes), vs = [.ref a] ∧ b.length ≤ 10000 ∧ SqL K H a (b.map fun c => V.int c.toNat) ∧
  (∀ f, VakepBase.tokens b = .error f → ∀ d H', Same H H' → H d = none → FaultAt H' d f.code f.place → E (.ref (He.ga K "Fault")) (some d) H') ∧
  (∀ ts, VakepBase.tokens b = .ok ts → ∀ l ps H', Same H H' → H l = none → H' l = some (.lst (ps.map V.ref)) → ToksAt K H' ps ts → Q (.ref l) H')
theorem ok_tokens_of (T : Tx K mg) (D_Token_init : Df P w K mg base CX0 (1) (He.ma K (He.ga K "Token") "__init__") P_Token_init (spToken (He.ga K "Token"))) (D_Fault_init : Df P w K mg base CX0 (1) (He.ma K (He.ga K "Fault") "__init__") P_Fault_init (spFault (He.ga K "Fault"))) (D_as_text : Df P w K mg base CX0 (1) (He.ga K "as_text") P_as_text (sp_as_text K)) (D_behind_blanks : Df P w K mg base CX0 (2) (He.ga K "behind_blanks") P_behind_blanks sp_behind_blanks) (D_token_at : Df P w K mg base (L2.CX P w) (4) (He.ga K "token_at") P_token_at (sp_token_at K)) : Df P w K mg base (L2.CX P w) (5) (He.ga K "tokens_of") P_tokens_of (sp_tokens_of K) := by
  refine dfx_mk (F_tokens_of T) sc_tokens_of (fun _ _ _ _ _ _ us hl => match us, hl with | [_], _ => rfl) (fun vs H Q E h => by obtain ⟨_, _, rfl, _⟩ := h; rfl) (fun cdv A outer s H vs Q E hr h => ⟨_, (pss_cons (ps_if (pt_cmpR op_gt (pe_callB call_len_seq (by rfl) (b_len T) PySem.boot_len (pa_cons (pv 0) pa_nil)) (pg (i_LONGEST_TEXT T)) (nomark _)) (pss_one (ps_raise rfl (takes_of rfl rfl rfl rfl) (pfault D_Fault_init (ecl_of (e_2 T)) (of_decide_eq_true (e_6 T)) (of_decide_eq_true (e_7 T)) (g_Fault T) hr (pa_cons (pg (i_TOO_LONG_faults T)) (pa_cons (pg (i_LONGEST_TEXT T)) pa_nil))))) pss_nil) (pss_cons (ps_set (i := 1) sc_tokens_of.nd rfl (Or.inl rfl) (pf D_as_text (g_as_text T) hr (pa_cons (pv 0) pa_nil))) (pss_cons (ps_set (i := 2) sc_tokens_of.nd rfl (Or.inl rfl) (pe_lst pa_nil)) (pss_cons (ps_set (i := 3) sc_tokens_of.nd rfl (Or.inl rfl) (pf D_behind_blanks (g_behind_blanks T) hr (pa_cons (pv 1) (pa_cons pe_int pa_nil)))) (pss_cons (ps_while (passes_of rfl) (pt_cmpR op_lt (pv 3) (pe_callB call_len_str (by rfl) (b_len T) PySem.boot_len (pa_cons (pv 1) pa_nil)) (nomark _)) (pss_cons (ps_set (i := 4) sc_tokens_of.nd rfl (Or.inl rfl) (pfx D_token_at (g_token_at T) (takes_of rfl rfl rfl rfl) hr (pa_cons (pv 1) (pa_cons (pv 3) pa_nil)))) (pss_cons (ps_expr (pe_bm PySem.F.plainAttrs_list PySem.F.slot_list_append PySem.F.type_list_append mt_append (pv 2) (pa_cons (pv 4) pa_nil))) (pss_one (ps_set (i := 3) sc_tokens_of.nd rfl (Or.inl rfl) (pf D_behind_blanks (g_behind_blanks T) hr (pa_cons (pv 1) (pa_cons (pe_op op_add (pv 3) (pe_callB call_len_str (by rfl) (b_len T) PySem.boot_len (pa_cons (pe_fld (pv 4) rfl) pa_nil))) pa_nil)))))))) (pss_cons (ps_expr (pe_bm PySem.F.plainAttrs_list PySem.F.slot_list_append PySem.F.type_list_append mt_append (pv 2) (pa_cons (pk D_Token_init (k_Token T) (g_Token T) hr (pa_cons (pg (t_END T)) (pa_cons pe_str (pa_cons (pe_callB call_len_str (by rfl) (b_len T) PySem.boot_len (pa_cons (pv 1) pa_nil)) pa_nil)))) pa_nil))) (pss_one (ps_ret (pv 2))))))))), ?_⟩)
  obtain ⟨a, b, rfl, hb, ha, qe, q⟩ := h
  have hlm : (b.map fun c => V.int c.toNat).length = b.length := List.length_map _
  refine ⟨_, rfl, _, _, rfl, .inl ha, _, _, rfl, rfl, _, rfl, ?_⟩
  rw [hlm]
  refine iteD (fun h1 => ?_) (fun h1 => ?_)
  · refine born fun d hd => qe ⟨1, 4096⟩ ?_ d _ (same_upd (Same.refl H) hd) hd upd_same
    unfold VakepBase.tokens
    rw [if_pos (by show 4096 < b.length; omega)] <;> rfl
  have htoks : VakepBase.tokens b = LX (b.map san) 0 := by
    unfold VakepBase.tokens
    rw [if_neg (by show ¬ 4096 < b.length; omega), LX_san]
  generalize hbs : b.map san = bs at *
  have hbl : bs.length = b.length := by rw [← hbs, List.length_map]
  have hlt : (tx bs).length = bs.length := tx_len bs
  have hb4 : bs.length ≤ 4096 := by omega
  refine ⟨_, rfl, a, b, rfl, hb, ha, fun H1 s1 => ?_⟩
  rw [hbs]
  refine ⟨(by decide), fun l hl => ?_⟩
  have hl0 : H l = none := Same.free s1 hl
  refine ⟨_, rfl, bs, 0, rfl, by omega, Nat.zero_le _, fun i0 _ hi0 e0 hc0 => ?_⟩
  refine ⟨fun m σ H2 => ∃ (i : Nat) (x : Option V) (ps : List Addr) (pre : Toks), m = bs.length - i ∧ i ≤ bs.length ∧ σ = [some (.ref a), some (.str (tx bs)), some (.ref l), some (.int i), x] ∧ Same H H2 ∧ H2 l = some (.lst (ps.map V.ref)) ∧ ToksAt K H2 ps pre ∧
      ps.length ≤ i ∧ VakepBase.tokens b = (LX bs i).map (fun r => pre ++ r) ∧ (∀ c, bs[i]? = some c → isBlank c = false ∧ c ≠ 35),
    ⟨_, i0, none, [], [], rfl, hi0, rfl, same_upd s1 hl0, upd_same, .nil, Nat.zero_le _, ?_, hc0⟩, ?_⟩
  · rw [htoks, e0]
    cases LX bs i0 <;> rfl
  rintro m σ H2 ⟨i, x, ps, pre, rfl, hi, rfl, s2, hl2, ht2, hps, et, hc⟩
  refine ⟨_, rfl, _, rfl, _, rfl, small (by omega), _, _, rfl, rfl, _, rfl, ?_⟩
  rw [hlt]
  refine iteD (fun h2 => ?_) (fun h2 => ?_)
  · have hi' : i < bs.length := by omega
    have hcs := hc _ (List.getElem?_eq_getElem hi')
    have etok := LX_tok (List.getElem?_eq_getElem hi') hcs.1 hcs.2
    refine ⟨fun σ' H' => ∃ (i' : Nat) (x : Option V) (ps : List Addr) (pre : Toks), i < i' ∧ i' ≤ bs.length ∧ σ' = [some (.ref a), some (.str (tx bs)), some (.ref l), some (.int i'), x] ∧ Same H H' ∧ H' l = some (.lst (ps.map V.ref)) ∧ ToksAt K H' ps pre ∧
      ps.length ≤ i' ∧ VakepBase.tokens b = (LX bs i').map (fun r => pre ++ r) ∧ (∀ c, bs[i']? = some c → isBlank c = false ∧ c ≠ 35), ?_, ?_⟩
    · rintro σ' H' ⟨i', x, ps, pre, k1, k2, k3, k4, k5, k6, k7, k8, k9⟩
      exact ⟨_, by omega, i', x, ps, pre, rfl, k2, k3, k4, k5, k6, k7, k8, k9⟩
    refine ⟨_, rfl, _, rfl, bs, i, rfl, by omega, hi', ?_, ?_⟩
    · intro e d hd
      refine qe ⟨2, i⟩ ?_ d _ (same_upd s2 (s2.free hd)) (s2.free hd) upd_same
      rw [et, etok, e] <;> rfl
    · intro t k e p z H3 s3 hp hz ht
      obtain ⟨k0, k1⟩ := token_len e
      rw [List.length_drop] at k1
      have hl3 := s3 l _ hl2
      have hlen : (ps.map V.ref).length = ps.length := List.length_map _
      refine ⟨_, rfl, .inl ⟨rfl, _, SqL.of hl3⟩, _, rfl, l, _, _, rfl, rfl, hl3, Nat.lt_of_le_of_lt (by omega : _ ≤ 4096) (by decide), ?_⟩
      have off : ∀ b C dx fs, H3 b = some (.ins C dx fs) → upd H3 l (.lst (ps.map V.ref ++ [.ref p])) b = some (.ins C dx fs) := fun b C dx fs h => by
        rw [upd_ne (fun z => by rw [z, hl3] at h; cases h)]
        exact h
      obtain ⟨dx, hp3, hz2⟩ := ht
      have hp4 := off _ _ _ _ hp3
      refine ⟨_, rfl, _, rfl, _, rfl, p, _, dx, _, _, rfl, hp4, c_Token T, n_Token_text T, rfl, _, rfl, small (by omega), _, _, rfl, rfl, ?_⟩
      refine ⟨bs, i + k, by rw [hz]; rfl, by omega, by omega, fun j hj1 hj2 ej hcj => ?_⟩
      refine ⟨j, _, ps ++ [p], pre ++ [⟨i, t⟩], by omega, hj2, rfl, same_upd (s2.trans s3) hl0, by rw [upd_same, List.map_append] <;> rfl, ?_, ?_, ?_, hcj⟩
      · exact (ht2.mono fun b C dx fs h => off b C dx fs (s3 _ _ h)).app (.cons (t := ⟨i, t⟩) (z := z) ⟨dx, hp4, hz2⟩ .nil)
      · rw [List.length_append]
        show ps.length + 1 ≤ j
        omega
      · rw [et, etok, e]
        show ((LX bs (i + k)).map _).map _ = _
        rw [ej]
        cases LX bs j with
        | error f => rfl
        | ok r =>
          show Except.ok (pre ++ (⟨i, t⟩ :: r)) = Except.ok (pre ++ [⟨i, t⟩] ++ r)
          rw [List.append_assoc] <;> rfl
  · have hii : i = bs.length := by omega
    subst hii
    have hlen : (ps.map V.ref).length = ps.length := List.length_map _
    refine ⟨_, rfl, .inl ⟨rfl, _, SqL.of hl2⟩, _, rfl, _, rfl, small (by omega), ?_⟩
    rw [hlt]
    intro p dx0 hp hdx ne
    refine ⟨p, dx0, _, _, _, rfl, upd_same, fun H3 g1 g2 => ⟨rfl, ?_⟩⟩
    have s3 : Same H2 H3 := Same.made (C := He.ga K "Token") hp hdx fun b o e n => (g2 b n).trans e
    have ht : TokAt K H3 p .last "" bs.length := ⟨dx0, g1, rfl⟩
    have hl3 := s3 l _ hl2
    refine ⟨l, _, _, rfl, rfl, hl3, Nat.lt_of_le_of_lt (by omega : _ ≤ 4096) (by decide), ?_⟩
    have off : ∀ b C dx fs, H3 b = some (.ins C dx fs) → upd H3 l (.lst (ps.map V.ref ++ [.ref p])) b = some (.ins C dx fs) := fun b C dx fs h => by
      rw [upd_ne (fun z => by rw [z, hl3] at h; cases h)]
      exact h
    obtain ⟨dx, hp3, hz2⟩ := ht
    refine ⟨_, rfl, q (pre ++ [⟨bs.length, .last⟩]) ?_ l (ps ++ [p]) _ (same_upd (s2.trans s3) hl0) hl0 (by rw [upd_same, List.map_append] <;> rfl) ?_⟩
    · rw [et, LX_end (Nat.le_refl _)] <;> rfl
    · exact (ht2.mono fun b C dx fs h => off b C dx fs (s3 _ _ h)).app (.cons (t := ⟨bs.length, .last⟩) (z := "") ⟨dx, off _ _ _ _ hp3, hz2⟩ .nil)
end
end Vf

set_option Elab.async false
set_option linter.all false
set_option maxRecDepth 100000
set_option maxHeartbeats 4000000
/-! The reader: how it lies in the heap, the kinds of its tokens. -/
namespace Vf
open PySem PySem.Spec PyProof.Rows L2
open VakepBase (Bytes PTok Toks RESERVED tokEq PName word)
open Vakepa (Setting Piece Raw RawPart)
/-! ### kinds -/
theorem res_all {p : Bytes → Bool} (h : RESERVED.all p = true) {b : Bytes} (hb : RESERVED.contains b = true) : p b = true :=
  List.all_eq_true.mp h b (List.contains_iff_mem.mp hb)
theorem res_mem {b : Bytes} : RESERVED.contains b = true ↔ b ∈ RESERVED := List.contains_iff_mem
theorem one_ne {c : Nat} {z : Str} (h : z.cps.size ≠ 1) : (⟨#[c]⟩ : Str) ≠ z := fun e => h (by rw [← e] <;> rfl)
/-- a reserved word's kind -/
theorem kind_word (s : String) (hr : RESERVED.contains (word s) = true) (h1 : tx (word s) = Str.ofString s) (h2 : (Str.ofString s).cps.size ≠ 1) (h3 : Str.ofString s ≠ "name") (h4 : Str.ofString s ≠ "number") (h5 : Str.ofString s ≠ "end") (t : BTok) :
    kindOf t = Str.ofString s ↔ tokEq t (.name (word s)) = true := by
  cases t with
  | name b =>
    show (if RESERVED.contains b = true then tx b else "name") = _ ↔ (b == word s) = true
    rw [beq_iff_eq]
    constructor
    · intro h
      split at h
      · exact tx_inj (h.trans h1.symm)
      · exact absurd h.symm h3
    · rintro rfl
      rw [if_pos hr, h1]
  | num n => exact ⟨fun h => absurd (h : ("number" : Str) = _).symm h4, fun h => nomatch h⟩
  | sign c => exact ⟨fun h => absurd h (one_ne h2), fun h => nomatch h⟩
  | last => exact ⟨fun h => absurd (h : ("end" : Str) = _).symm h5, fun h => nomatch h⟩
/-- a sign's kind -/
theorem kind_sign (c : Nat) (z : Str) (hz : z = ⟨#[c]⟩) (t : BTok) : kindOf t = z ↔ tokEq t (.sign c) = true := by
  subst hz
  have no : ∀ y : Str, y.cps.size ≠ 1 → y ≠ ⟨#[c]⟩ := fun y h e => h (by rw [e] <;> rfl)
  cases t with
  | name b =>
    refine ⟨fun h => ?_, fun h => nomatch h⟩
    change (if RESERVED.contains b = true then tx b else "name") = _ at h
    split at h
    · rename_i hb
      have := res_all (p := fun b => decide ((tx b).cps.size ≠ 1)) (by decide +kernel) hb
      exact absurd h (no _ (of_decide_eq_true this))
    · exact absurd h (no _ (by decide +kernel))
  | num n => exact ⟨fun h => absurd (h : ("number" : Str) = _) (no ("number" : Str) (by decide +kernel)), fun h => nomatch h⟩
  | sign d =>
    show (⟨#[d]⟩ : Str) = ⟨#[c]⟩ ↔ (d == c) = true
    rw [beq_iff_eq]
    refine ⟨fun h => ?_, fun h => by rw [h]⟩
    injection h with h
    have := congrArg Array.toList h
    injection this
  | last => exact ⟨fun h => absurd h (no _ (by decide +kernel)), fun h => nomatch h⟩
theorem kind_name (t : BTok) : kindOf t = "name" ↔ ∃ b, t = .name b ∧ RESERVED.contains b = false := by
  cases t with
  | name b =>
    show (if RESERVED.contains b = true then tx b else "name") = _ ↔ _
    constructor
    · intro h
      split at h
      · rename_i hb
        have := res_all (p := fun b => decide (tx b ≠ "name")) (by decide +kernel) hb
        exact absurd h (of_decide_eq_true this)
      · rename_i hb
        exact ⟨b, rfl, bfalse hb⟩
    · rintro ⟨b', e, hb⟩
      cases e
      rw [if_neg (by rw [hb]; decide)]
  | num n => exact ⟨fun h => absurd h (show ¬ ("number" : Str) = "name" by decide +kernel), fun ⟨b, e, _⟩ => nomatch e⟩
  | sign c => exact ⟨fun h => absurd h (one_ne (by decide +kernel)), fun ⟨b, e, _⟩ => nomatch e⟩
  | last => exact ⟨fun h => absurd (h : ("end" : Str) = "name") (by decide +kernel), fun ⟨b, e, _⟩ => nomatch e⟩
theorem kind_number (t : BTok) : kindOf t = "number" ↔ ∃ n, t = .num n := by
  cases t with
  | name b =>
    refine ⟨fun h => ?_, fun ⟨n, e⟩ => nomatch e⟩
    change (if RESERVED.contains b = true then tx b else "name") = _ at h
    split at h
    · rename_i hb
      have := res_all (p := fun b => decide (tx b ≠ "number")) (by decide +kernel) hb
      exact absurd h (of_decide_eq_true this)
    · exact absurd h (by decide +kernel)
  | num n => exact ⟨fun _ => ⟨n, rfl⟩, fun _ => rfl⟩
  | sign c => exact ⟨fun h => absurd h (one_ne (by decide +kernel)), fun ⟨b, e⟩ => nomatch e⟩
  | last => exact ⟨fun h => absurd (h : ("end" : Str) = "number") (by decide +kernel), fun ⟨b, e⟩ => nomatch e⟩
theorem kind_end (t : BTok) : kindOf t = "end" ↔ tokEq t .last = true := by
  cases t with
  | name b =>
    refine ⟨fun h => ?_, fun h => nomatch h⟩
    change (if RESERVED.contains b = true then tx b else "name") = _ at h
    split at h
    · rename_i hb
      have := res_all (p := fun b => decide (tx b ≠ "end")) (by decide +kernel) hb
      exact absurd h (of_decide_eq_true this)
    · exact absurd h (by decide +kernel)
  | num n => exact ⟨fun h => absurd h (show ¬ ("number" : Str) = "end" by decide +kernel), fun h => nomatch h⟩
  | sign c => exact ⟨fun h => absurd h (one_ne (by decide +kernel)), fun h => nomatch h⟩
  | last => exact ⟨fun _ => rfl, fun _ => rfl⟩
theorem kw {s : String} (t : BTok) (hr : RESERVED.contains (word s) = true := by decide +kernel) (h1 : tx (word s) = Str.ofString s := by decide +kernel) (h2 : (Str.ofString s).cps.size ≠ 1 := by decide +kernel) (h3 : Str.ofString s ≠ "name" := by decide +kernel) (h4 : Str.ofString s ≠ "number" := by decide +kernel) (h5 : Str.ofString s ≠ "end" := by decide +kernel) :
    kindOf t = Str.ofString s ↔ tokEq t (.name (word s)) = true := kind_word s hr h1 h2 h3 h4 h5 t
theorem ks {s : String} (c : Nat) (t : BTok) (h : Str.ofString s = ⟨#[c]⟩ := by decide +kernel) : kindOf t = Str.ofString s ↔ tokEq t (.sign c) = true := kind_sign c _ h t
/-! ### heaps but for some places -/
/-- the heap without what lies at these places -/
def Off (M : List Addr) (H : Hp) : Hp := fun b => if b ∈ M then none else H b
theorem off_in {M : List Addr} {H : Hp} {b : Addr} (h : b ∈ M) : Off M H b = none := if_pos h
theorem off_out {M : List Addr} {H : Hp} {b : Addr} (h : b ∉ M) : Off M H b = H b := if_neg h
theorem off_some {M : List Addr} {H : Hp} {b : Addr} {o : HO} : Off M H b = some o ↔ b ∉ M ∧ H b = some o := by
  unfold Off
  split
  · rename_i h
    exact ⟨fun z => (nomatch z), fun z => absurd h z.1⟩
  · rename_i h
    exact ⟨fun z => ⟨h, z⟩, fun z => z.2⟩
theorem off_le {M : List Addr} {H : Hp} : Same (Off M H) H := fun _ _ h => (off_some.mp h).2
theorem off_less {M N : List Addr} {H : Hp} (h : ∀ b, b ∈ M → b ∈ N) : Same (Off N H) (Off M H) := fun b o e => by
  obtain ⟨e1, e2⟩ := off_some.mp e
  exact off_some.mpr ⟨fun z => e1 (h b z), e2⟩
theorem off_upd {M : List Addr} {H : Hp} {a : Addr} {o : HO} (h : a ∈ M) : Off M (upd H a o) = Off M H := by
  funext b
  unfold Off
  split
  · rfl
  · rename_i hb
    rw [upd_ne (fun z => hb (by rw [z]; exact h))]
theorem off_new {M : List Addr} {H : Hp} {a : Addr} {o : HO} (h : H a = none) : Same (Off M H) (Off M (upd H a o)) := fun b u e => by
  obtain ⟨e1, e2⟩ := off_some.mp e
  exact off_some.mpr ⟨e1, by rw [upd_ne (ne_of_none e2 h)]; exact e2⟩
theorem off_same {M : List Addr} {H H' : Hp} (h : Same H H') : Same (Off M H) (Off M H') := fun b o e => by
  obtain ⟨e1, e2⟩ := off_some.mp e
  exact off_some.mpr ⟨e1, h b o e2⟩
/-- a place that was free at first does not count -/
theorem off_free {M : List Addr} {H0 H H' : Hp} {l : Addr} (h0 : Same (Off M H0) (Off M H)) (hl : H0 l = none) (h : Same (Off (l :: M) H) (Off (l :: M) H')) : Same (Off M H0) (Off M H') := fun b o e => by
  have ne : b ≠ l := ne_of_none (off_some.mp e).2 hl
  obtain ⟨e1, e2⟩ := off_some.mp (h0 b o e)
  have := h b o (off_some.mpr ⟨fun z => (List.mem_cons.mp z).elim ne e1, e2⟩)
  obtain ⟨e3, e4⟩ := off_some.mp this
  exact off_some.mpr ⟨e1, e4⟩
theorem off_cons {M : List Addr} {H H' : Hp} {l : Addr} (h : Same (Off M H) (Off M H')) : Same (Off (l :: M) H) (Off (l :: M) H') := fun b o e => by
  obtain ⟨e1, e2⟩ := off_some.mp e
  obtain ⟨e3, e4⟩ := off_some.mp (h b o (off_some.mpr ⟨fun z => e1 (List.mem_cons_of_mem _ z), e2⟩))
  exact off_some.mpr ⟨e1, e4⟩
/-! ### the reader -/
/-- where the reader's things lie, and its tokens -/
structure Rd where
  a : Addr
  dx : Addr
  lt : Addr
  dS : Addr
  dP : Addr
  lE : Addr
  lC : Addr
  tps : List Addr
  toks : Toks
/-- what it changes -/
def Rd.M (r : Rd) : List Addr := [r.a, r.dS, r.dP, r.lE, r.lC]
def rdF (r : Rd) (i : Nat) : List (Str × V) := [("tokens", .ref r.lt), ("at", .int i), ("settings", .ref r.dS), ("parts", .ref r.dP), ("entries", .ref r.lE), ("callees", .ref r.lC)]
def rdO (K : PySem.W.Frag) (r : Rd) (i : Nat) : HO := .ins (He.ga K "Reader") r.dx (rdF r i)
theorem put_at (r : Rd) (i j : Nat) : putF "at" (.int j) (rdF r i) = rdF r j := rfl
/-- the tokens' last one alone is the end -/
def Wf (ts : Toks) : Prop := ∃ pre p, ts = pre ++ [⟨p, .last⟩] ∧ ∀ t ∈ pre, t.tok ≠ .last
theorem Wf.next {ts : Toks} (h : Wf ts) {i : Nat} {t : PTok} (e : ts[i]? = some t) (ht : t.tok ≠ .last) : i + 1 < ts.length := by
  obtain ⟨pre, p, rfl, k⟩ := h
  have hi := (List.getElem?_eq_some_iff.mp e).1
  rw [List.length_append] at hi ⊢
  have : ([⟨p, .last⟩] : Toks).length = 1 := rfl
  rw [this] at hi ⊢
  by_cases hlt : i < pre.length
  · omega
  · have : i = pre.length := by omega
    subst this
    rw [List.getElem?_append_right (Nat.le_refl _), Nat.sub_self] at e
    cases e
    exact absurd rfl ht
/-- the reader stands at the i-th token -/
structure RA (K : PySem.W.Frag) (H : Hp) (r : Rd) (i : Nat) : Prop where
  obj : H r.a = some (rdO K r i)
  lt : H r.lt = some (.lst (r.tps.map V.ref))
  toks : ToksAt K H r.tps r.toks
theorem ToksAt.at_ {K : PySem.W.Frag} {H : Hp} : ∀ {ps : List Addr} {ts : Toks} {i : Nat} {t : PTok}, ToksAt K H ps ts → ts[i]? = some t → ∃ p z, ps[i]? = some p ∧ TokAt K H p t.tok z t.place
  | _, _, 0, _, .cons (p := p) (z := z) h r, e => by
    cases e
    exact ⟨p, z, rfl, h⟩
  | _, _, i + 1, _, .cons h r, e => by
    obtain ⟨p, z, e1, e2⟩ := r.at_ (i := i) e
    exact ⟨p, z, e1, e2⟩
theorem ToksAt.len {K : PySem.W.Frag} {H : Hp} : ∀ {ps : List Addr} {ts : Toks}, ToksAt K H ps ts → ps.length = ts.length
  | _, _, .nil => rfl
  | _, _, .cons h r => by rw [List.length_cons, List.length_cons, r.len]
theorem TokAt.mono {K : PySem.W.Frag} {H H' : Hp} {p : Addr} {t : BTok} {z : Str} {i : Nat} (s : Same H H') (h : TokAt K H p t z i) : TokAt K H' p t z i := by
  obtain ⟨dx, e, k⟩ := h
  exact ⟨dx, s _ _ e, k⟩
theorem ToksAt.same {K : PySem.W.Frag} {H H' : Hp} {ps : List Addr} {ts : Toks} (s : Same H H') (h : ToksAt K H ps ts) : ToksAt K H' ps ts := h.mono fun b C dx fs e => s _ _ e
/-! ### lists of things that lie there -/
/-- each of these lies at its place -/
inductive AtAll {α : Type} (R : Addr → α → Prop) : List Addr → List α → Prop where
  | nil : AtAll R [] []
  | cons {p : Addr} {ps : List Addr} {x : α} {xs : List α} (h : R p x) (r : AtAll R ps xs) : AtAll R (p :: ps) (x :: xs)
section
variable {α : Type} {R R' : Addr → α → Prop}
theorem AtAll.mono (s : ∀ p x, R p x → R' p x) : ∀ {ps : List Addr} {xs : List α}, AtAll R ps xs → AtAll R' ps xs
  | _, _, .nil => .nil
  | _, _, .cons h r => .cons (s _ _ h) (r.mono s)
theorem AtAll.app : ∀ {ps qs : List Addr} {xs ys : List α}, AtAll R ps xs → AtAll R qs ys → AtAll R (ps ++ qs) (xs ++ ys)
  | _, _, _, _, .nil, h => h
  | _, _, _, _, .cons k r, h => .cons k (r.app h)
theorem AtAll.push {ps : List Addr} {xs : List α} {p : Addr} {x : α} (h : AtAll R ps xs) (k : R p x) : AtAll R (ps ++ [p]) (xs ++ [x]) := h.app (.cons k .nil)
theorem AtAll.len : ∀ {ps : List Addr} {xs : List α}, AtAll R ps xs → ps.length = xs.length
  | _, _, .nil => rfl
  | _, _, .cons h r => by rw [List.length_cons, List.length_cons, r.len]
theorem AtAll.at_ : ∀ {ps : List Addr} {xs : List α} {i : Nat} {x : α}, AtAll R ps xs → xs[i]? = some x → ∃ p, ps[i]? = some p ∧ R p x
  | _, _, 0, _, .cons (p := p) h r, e => by
    cases e
    exact ⟨p, rfl, h⟩
  | _, _, i + 1, _, .cons h r, e => r.at_ (i := i) e
theorem AtAll.at' : ∀ {ps : List Addr} {xs : List α} {i : Nat} {p : Addr}, AtAll R ps xs → ps[i]? = some p → ∃ x, xs[i]? = some x ∧ R p x
  | _, _, 0, _, .cons (x := x) h r, e => by
    cases e
    exact ⟨x, rfl, h⟩
  | _, _, i + 1, _, .cons h r, e => r.at' (i := i) e
end
/-! ### dicts by names -/
/-- the pairs of a dict from names to objects -/
def kvOf : List Bytes → List Addr → List (Key × V)
  | n :: ns, a :: as => (Sum.inr (tx n), .ref a) :: kvOf ns as
  | _, _ => []
theorem kvOf_len : ∀ {ns : List Bytes} {as : List Addr}, as.length = ns.length → (kvOf ns as).length = ns.length
  | [], _, _ => by
    unfold kvOf
    rfl
  | _ :: _, [], h => nomatch h
  | n :: ns, a :: as, h => by
    show (kvOf ns as).length + 1 = _
    rw [kvOf_len (Nat.succ.inj h)] <;> rfl
theorem key_eq {a b : Bytes} : ((Sum.inr (tx a) : Key) = Sum.inr (tx b)) ↔ a = b := ⟨fun h => by injection h with h; exact tx_inj h, fun h => by rw [h]⟩
theorem valV_kv (b : Bytes) : ∀ {ns : List Bytes} {as : List Addr}, as.length = ns.length → valV (kvOf ns as) (Sum.inr (tx b) : Key) = (ns.findIdx? fun x => x == b).bind fun k => (as[k]?).map V.ref
  | [], _, _ => by
    unfold kvOf
    rfl
  | _ :: _, [], h => nomatch h
  | n :: ns, a :: as, h => by
    show valV ((Sum.inr (tx n), V.ref a) :: kvOf ns as) _ = _
    rw [List.findIdx?_cons]
    by_cases e : n = b
    · subst e
      rw [valV_pos rfl, if_pos (beq_self_eq_true n)] <;> rfl
    · rw [valV_neg (fun z => e (key_eq.mp z)), if_neg (by simpa using e), valV_kv b (Nat.succ.inj h)]
      cases ns.findIdx? (fun x => x == b) <;> rfl
theorem kvOf_app : ∀ {ns ms : List Bytes} {as bs : List Addr}, as.length = ns.length → kvOf (ns ++ ms) (as ++ bs) = kvOf ns as ++ kvOf ms bs
  | [], _, [], _, _ => rfl
  | [], _, _ :: _, _, h => nomatch h
  | _ :: _, _, [], _, h => nomatch h
  | n :: ns, ms, a :: as, bs, h => by
    show (_ :: kvOf (ns ++ ms) (as ++ bs)) = _ :: (kvOf ns as ++ kvOf ms bs)
    rw [kvOf_app (Nat.succ.inj h)]
theorem any_kv (b : Bytes) : ∀ {ns : List Bytes} {as : List Addr}, as.length = ns.length → ((kvOf ns as).any fun kv => decide (kv.1 = (Sum.inr (tx b) : Key))) = ns.any fun x => x == b
  | [], _, _ => by
    unfold kvOf
    rfl
  | _ :: _, [], h => nomatch h
  | n :: ns, a :: as, h => by
    show ((Sum.inr (tx n), V.ref a) :: kvOf ns as).any _ = _
    rw [List.any_cons, List.any_cons, any_kv b (Nat.succ.inj h)]
    congr 1
    rw [Bool.eq_iff_iff, decide_eq_true_eq, beq_iff_eq]
    exact key_eq
theorem putK_kv {ns : List Bytes} {as : List Addr} {b : Bytes} {a : Addr} (h : as.length = ns.length) (hb : (ns.any fun x => x == b) = false) : putK (kvOf ns as) (Sum.inr (tx b) : Key) (.ref a) = kvOf (ns ++ [b]) (as ++ [a]) := by
  unfold putK
  rw [any_kv b h, hb, kvOf_app h] <;> rfl
end Vf

set_option Elab.async false
set_option linter.all false
set_option maxRecDepth 100000
set_option maxHeartbeats 4000000
/-! What the reader has read so far, and how it lies in the heap. -/
namespace Vf
open PySem PySem.Spec PyProof.Rows L2
open VakepBase (Bytes PTok Toks RESERVED tokEq PName word)
open Vakepa (Piece Raw RawPart)
abbrev BSet := Vakepa.Setting
def sv (b : Bytes) : V := .str (tx b)
/-- a setting -/
def SetAt (K : PySem.W.Frag) (H : Hp) (p : Addr) (s : BSet) : Prop :=
  ∃ dx lw, H p = some (.ins (He.ga K "Setting") dx [("name", sv s.name), ("words", .ref lw)]) ∧ H lw = some (.lst (s.values.map sv))
def pieceT (ss : List BSet) : Piece → Bytes
  | .set k => ((ss[k]?).map fun s => s.name).getD []
  | .word b => b
def valueT (ss : List BSet) (x v : Nat) : Bytes := ((ss[x]?).bind fun s => s.values[v]?).getD []
/-- statements -/
def BodyAt (K : PySem.W.Frag) (ss : List BSet) (H : Hp) : Raw → List V → Prop
  | .done, vs => vs = []
  | .say k r, vs => ∃ a dx ws, vs = .ref a :: ws ∧ H a = some (.ins (He.ga K "Say") dx [("amount", .int k)]) ∧ BodyAt K ss H r ws
  | .call p r, vs => ∃ a dx ws, vs = .ref a :: ws ∧ H a = some (.ins (He.ga K "Call") dx [("name", sv p.name)]) ∧ BodyAt K ss H r ws
  | .make ps r, vs => ∃ a dx l ws, vs = .ref a :: ws ∧ H a = some (.ins (He.ga K "Make") dx [("pieces", .ref l)]) ∧ H l = some (.lst (ps.map fun q => sv (pieceT ss q))) ∧ BodyAt K ss H r ws
  | .when_ x v b r, vs => ∃ a dx l us ws, vs = .ref a :: ws ∧ H a = some (.ins (He.ga K "When") dx [("setting", sv (pieceT ss (.set x))), ("word", sv (valueT ss x v)), ("body", .ref l)]) ∧ H l = some (.lst us) ∧ BodyAt K ss H b us ∧ BodyAt K ss H r ws
def PartAt (K : PySem.W.Frag) (ss : List BSet) (H : Hp) (p : Addr) (x : RawPart) : Prop :=
  ∃ dx l us, H p = some (.ins (He.ga K "Part") dx [("name", sv x.name), ("size", .int x.size), ("body", .ref l)]) ∧ H l = some (.lst us) ∧ BodyAt K ss H x.body us
def CallAt (K : PySem.W.Frag) (H : Hp) (p : Addr) (c : PName) : Prop := RESERVED.contains c.name = false ∧ ∃ z, TokAt K H p (.name c.name) z c.place
theorem SetAt.same {K : PySem.W.Frag} {H H' : Hp} (s : Same H H') {p : Addr} {x : BSet} (h : SetAt K H p x) : SetAt K H' p x := by
  obtain ⟨dx, lw, e1, e2⟩ := h
  exact ⟨dx, lw, s _ _ e1, s _ _ e2⟩
theorem BodyAt.same {K : PySem.W.Frag} {ss : List BSet} {H H' : Hp} (s : Same H H') : ∀ {x : Raw} {vs : List V}, BodyAt K ss H x vs → BodyAt K ss H' x vs
  | .done, _, h => h
  | .say k r, _, ⟨a, dx, ws, e, h, t⟩ => ⟨a, dx, ws, e, s _ _ h, BodyAt.same s t⟩
  | .call p r, _, ⟨a, dx, ws, e, h, t⟩ => ⟨a, dx, ws, e, s _ _ h, BodyAt.same s t⟩
  | .make ps r, _, ⟨a, dx, l, ws, e, h, h2, t⟩ => ⟨a, dx, l, ws, e, s _ _ h, s _ _ h2, BodyAt.same s t⟩
  | .when_ x v b r, _, ⟨a, dx, l, us, ws, e, h, h2, t1, t⟩ => ⟨a, dx, l, us, ws, e, s _ _ h, s _ _ h2, BodyAt.same s t1, BodyAt.same s t⟩
theorem PartAt.same {K : PySem.W.Frag} {ss : List BSet} {H H' : Hp} (s : Same H H') {p : Addr} {x : RawPart} (h : PartAt K ss H p x) : PartAt K ss H' p x := by
  obtain ⟨dx, l, us, e1, e2, e3⟩ := h
  exact ⟨dx, l, us, s _ _ e1, s _ _ e2, e3.same s⟩
theorem CallAt.same {K : PySem.W.Frag} {H H' : Hp} (s : Same H H') {p : Addr} {x : PName} (h : CallAt K H p x) : CallAt K H' p x := by
  obtain ⟨e, z, t⟩ := h
  exact ⟨e, z, t.mono s⟩
theorem BodyAt.app {K : PySem.W.Frag} {ss : List BSet} {H : Hp} {y : Raw} {ws : List V} (k : BodyAt K ss H y ws) : ∀ {x : Raw} {vs : List V}, BodyAt K ss H x vs → BodyAt K ss H (rapp x y) (vs ++ ws)
  | .done, _, h => by
    cases h
    exact k
  | .say _ r, _, ⟨a, dx, us, e, h, t⟩ => ⟨a, dx, us ++ ws, by rw [e] <;> rfl, h, k.app t⟩
  | .call _ r, _, ⟨a, dx, us, e, h, t⟩ => ⟨a, dx, us ++ ws, by rw [e] <;> rfl, h, k.app t⟩
  | .make _ r, _, ⟨a, dx, l, us, e, h, h2, t⟩ => ⟨a, dx, l, us ++ ws, by rw [e] <;> rfl, h, h2, k.app t⟩
  | .when_ _ _ _ r, _, ⟨a, dx, l, u1, us, e, h, h2, t1, t⟩ => ⟨a, dx, l, u1, us ++ ws, by rw [e] <;> rfl, h, h2, t1, k.app t⟩
/-- the reader at the i-th token, with all that it has read; L: lists that a caller still makes -/
structure RS (K : PySem.W.Frag) (L : List Addr) (H : Hp) (r : Rd) (i : Nat) (ss : List BSet) (ps : List RawPart) (es : List Bytes) (cs : List PName) : Prop where
  obj : H r.a = some (rdO K r i)
  nd : (L ++ r.M).Nodup
  live : ∀ x ∈ L, ∃ o, H x = some o
  lt : Off (L ++ r.M) H r.lt = some (.lst (r.tps.map V.ref))
  toks : ToksAt K (Off (L ++ r.M) H) r.tps r.toks
  wf : Wf r.toks
  small : r.toks.length ≤ 5000
  hi : i < r.toks.length
  sets : ∃ as, H r.dS = some (.dK (kvOf (ss.map fun s => s.name) as)) ∧ AtAll (SetAt K (Off (L ++ r.M) H)) as ss
  parts : ∃ as, H r.dP = some (.dK (kvOf (ps.map fun s => s.name) as)) ∧ AtAll (PartAt K ss (Off (L ++ r.M) H)) as ps
  ents : H r.lE = some (.lst (es.map sv))
  calls : ∃ as, H r.lC = some (.lst (as.map V.ref)) ∧ AtAll (CallAt K (Off (L ++ r.M) H)) as cs
  ncs : cs.length ≤ i
section
variable {K : PySem.W.Frag} {L : List Addr} {H H' : Hp} {r : Rd} {i j : Nat} {ss : List BSet} {ps : List RawPart} {es : List Bytes} {cs : List PName} {l : Addr} {o : HO}
theorem RS.a_in (L : List Addr) (r : Rd) : r.a ∈ L ++ r.M := List.mem_append_right _ (List.mem_cons_self ..)
theorem RS.dS_in (L : List Addr) (r : Rd) : r.dS ∈ L ++ r.M := List.mem_append_right _ (by simp [Rd.M])
theorem RS.dP_in (L : List Addr) (r : Rd) : r.dP ∈ L ++ r.M := List.mem_append_right _ (by simp [Rd.M])
theorem RS.lE_in (L : List Addr) (r : Rd) : r.lE ∈ L ++ r.M := List.mem_append_right _ (by simp [Rd.M])
theorem RS.lC_in (L : List Addr) (r : Rd) : r.lC ∈ L ++ r.M := List.mem_append_right _ (by simp [Rd.M])
theorem RS.mn (h : RS K L H r i ss ps es cs) : r.M.Nodup := (List.nodup_append.mp h.nd).2.1
theorem RS.ra (h : RS K L H r i ss ps es cs) : RA K H r i := ⟨h.obj, off_le _ _ h.lt, h.toks.same off_le⟩
theorem ne_kind {a b : Addr} {u v : HO} (h1 : H a = some u) (h2 : H b = some v) (h : u ≠ v) : a ≠ b := fun z => by
  subst z
  rw [h1] at h2
  exact h (Option.some.inj h2)
/-- it has gone on -/
theorem RS.move (h : RS K L H r i ss ps es cs) (hij : i ≤ j) (hj : j < r.toks.length) : RS K L (upd H r.a (rdO K r j)) r j ss ps es cs := by
  obtain ⟨e1, e2, e3, e4, e5, e6, e7, e8, ⟨as, e9, e10⟩, ⟨bs, e11, e12⟩, e13, ⟨ds, e14, e15⟩, e16⟩ := h
  have n1 : r.dS ≠ r.a := ne_kind e9 e1 (by intro z; cases z)
  have n2 : r.dP ≠ r.a := ne_kind e11 e1 (by intro z; cases z)
  have n3 : r.lE ≠ r.a := ne_kind e13 e1 (by intro z; cases z)
  have n4 : r.lC ≠ r.a := ne_kind e14 e1 (by intro z; cases z)
  have q := off_upd (H := H) (o := rdO K r j) (RS.a_in L r)
  refine ⟨upd_same, e2, fun x hx => ?_, by rw [q]; exact e4, by rw [q]; exact e5, e6, e7, hj, ⟨as, by rw [upd_ne n1]; exact e9, by rw [q]; exact e10⟩, ⟨bs, by rw [upd_ne n2]; exact e11, by rw [q]; exact e12⟩,
    by rw [upd_ne n3]; exact e13, ⟨ds, by rw [upd_ne n4]; exact e14, by rw [q]; exact e15⟩, by omega⟩
  obtain ⟨u, hu⟩ := e3 x hx
  by_cases z : x = r.a
  · exact ⟨_, by rw [z, upd_same]⟩
  · exact ⟨u, by rw [upd_ne z]; exact hu⟩
theorem RS.same (h : RS K L H r i ss ps es cs) (s : Same H H') : RS K L H' r i ss ps es cs := by
  obtain ⟨e1, e2, e3, e4, e5, e6, e7, e8, ⟨as, e9, e10⟩, ⟨bs, e11, e12⟩, e13, ⟨ds, e14, e15⟩, e16⟩ := h
  have q := off_same (M := L ++ r.M) s
  exact ⟨s _ _ e1, e2, fun x hx => (e3 x hx).imp fun o e => s _ _ e, q _ _ e4, e5.same q, e6, e7, e8, ⟨as, s _ _ e9, e10.mono fun _ _ => SetAt.same q⟩, ⟨bs, s _ _ e11, e12.mono fun _ _ => PartAt.same q⟩,
    s _ _ e13, ⟨ds, s _ _ e14, e15.mono fun _ _ => CallAt.same q⟩, e16⟩
/-- facts about a part of the heap stand over a smaller list of holes -/
theorem RS.less {L' : List Addr} (h : RS K L H r i ss ps es cs) (s : Same (Off (L ++ r.M) H) (Off (L' ++ r.M) H)) (hn : (L' ++ r.M).Nodup) (hl : ∀ x ∈ L', ∃ o, H x = some o) : RS K L' H r i ss ps es cs := by
  obtain ⟨e1, e2, e3, e4, e5, e6, e7, e8, ⟨as, e9, e10⟩, ⟨bs, e11, e12⟩, e13, ⟨ds, e14, e15⟩, e16⟩ := h
  exact ⟨e1, hn, hl, s _ _ e4, e5.same s, e6, e7, e8, ⟨as, e9, e10.mono fun _ _ => SetAt.same s⟩, ⟨bs, e11, e12.mono fun _ _ => PartAt.same s⟩, e13, ⟨ds, e14, e15.mono fun _ _ => CallAt.same s⟩, e16⟩
theorem RS.close (h : RS K (l :: L) H r i ss ps es cs) : RS K L H r i ss ps es cs :=
  h.less (off_less fun b hb => List.mem_cons_of_mem _ hb) (List.nodup_cons.mp h.nd).2 fun x hx => h.live x (List.mem_cons_of_mem _ hx)
theorem RS.off_a (h : RS K L H r i ss ps es cs) (n : ∀ o, H l ≠ some o) : l ∉ L ++ r.M := by
  intro z
  rcases List.mem_append.mp z with z | z
  · obtain ⟨o, e⟩ := h.live l z
    exact n o e
  · obtain ⟨as, e9, _⟩ := h.sets
    obtain ⟨bs, e11, _⟩ := h.parts
    obtain ⟨ds, e14, _⟩ := h.calls
    simp only [Rd.M, List.mem_cons, List.not_mem_nil, or_false] at z
    rcases z with rfl | rfl | rfl | rfl | rfl
    · exact n _ h.obj
    · exact n _ e9
    · exact n _ e11
    · exact n _ h.ents
    · exact n _ e14
theorem RS.open_ (h : RS K L H r i ss ps es cs) (hl : H l = none) (o : HO) : RS K (l :: L) (upd H l o) r i ss ps es cs := by
  have hn : l ∉ L ++ r.M := h.off_a fun o e => by rw [hl] at e; cases e
  have s : Same (Off (L ++ r.M) (upd H l o)) (Off (l :: L ++ r.M) (upd H l o)) → True := fun _ => trivial
  have h1 := h.same (H' := upd H l o) fun b u e => by rw [upd_ne (ne_of_none e hl)]; exact e
  obtain ⟨e1, e2, e3, e4, e5, e6, e7, e8, ⟨as, e9, e10⟩, ⟨bs, e11, e12⟩, e13, ⟨ds, e14, e15⟩, e16⟩ := h
  have q : Same (Off (L ++ r.M) H) (Off (l :: L ++ r.M) (upd H l o)) := fun b u e => by
    obtain ⟨k1, k2⟩ := off_some.mp e
    have ne := ne_of_none k2 hl
    exact off_some.mpr ⟨fun z => (List.mem_cons.mp z).elim ne k1, by rw [upd_ne ne]; exact k2⟩
  refine ⟨h1.obj, List.nodup_cons.mpr ⟨hn, e2⟩, fun x hx => ?_, q _ _ e4, e5.same q, e6, e7, e8, ⟨as, ?_, e10.mono fun _ _ => SetAt.same q⟩, ⟨bs, ?_, e12.mono fun _ _ => PartAt.same q⟩, h1.ents, ⟨ds, ?_, e15.mono fun _ _ => CallAt.same q⟩, e16⟩
  · rcases List.mem_cons.mp hx with rfl | hx
    · exact ⟨o, upd_same⟩
    · exact h1.live x hx
  · rw [upd_ne (ne_of_none e9 hl)]
    exact e9
  · rw [upd_ne (ne_of_none e11 hl)]
    exact e11
  · rw [upd_ne (ne_of_none e14 hl)]
    exact e14
theorem RS.set (h : RS K (l :: L) H r i ss ps es cs) (o : HO) : RS K (l :: L) (upd H l o) r i ss ps es cs := by
  obtain ⟨e1, e2, e3, e4, e5, e6, e7, e8, ⟨as, e9, e10⟩, ⟨bs, e11, e12⟩, e13, ⟨ds, e14, e15⟩, e16⟩ := h
  have q := off_upd (H := H) (o := o) (M := l :: L ++ r.M) (List.mem_cons_self ..)
  have hn := (List.nodup_cons.mp e2).1
  have ne : ∀ {x}, x ∈ r.M → x ≠ l := fun {x} hx z => hn (by rw [← z]; exact List.mem_append_right _ hx)
  refine ⟨by rw [upd_ne (ne (by simp [Rd.M]))]; exact e1, e2, fun x hx => ?_, by rw [q]; exact e4, by rw [q]; exact e5, e6, e7, e8, ⟨as, by rw [upd_ne (ne (by simp [Rd.M]))]; exact e9, by rw [q]; exact e10⟩,
    ⟨bs, by rw [upd_ne (ne (by simp [Rd.M]))]; exact e11, by rw [q]; exact e12⟩, by rw [upd_ne (ne (by simp [Rd.M]))]; exact e13, ⟨ds, by rw [upd_ne (ne (by simp [Rd.M]))]; exact e14, by rw [q]; exact e15⟩, e16⟩
  obtain ⟨u, hu⟩ := e3 x hx
  by_cases z : x = l
  · exact ⟨o, by rw [z, upd_same]⟩
  · exact ⟨u, by rw [upd_ne z]; exact hu⟩
theorem RS.addCall (h : RS K L H r i ss ps es cs) {p : Addr} {c : PName} {as : List Addr} (e : H r.lC = some (.lst (as.map V.ref))) (hp : CallAt K (Off (L ++ r.M) H) p c) (hc : cs.length < i) :
    RS K L (upd H r.lC (.lst (as.map V.ref ++ [.ref p]))) r i ss ps es (cs ++ [c]) := by
  have hmn := h.mn
  obtain ⟨e1, e2, e3, e4, e5, e6, e7, e8, ⟨bs, e9, e10⟩, ⟨us, e11, e12⟩, e13, ⟨ds, e14, e15⟩, e16⟩ := h
  have q := off_upd (H := H) (o := .lst (as.map V.ref ++ [.ref p])) (RS.lC_in L r)
  have n0 : r.a ≠ r.lC := ne_kind e1 e14 (by intro z; cases z)
  have n1 : r.dS ≠ r.lC := ne_kind e9 e14 (by intro z; cases z)
  have n2 : r.dP ≠ r.lC := ne_kind e11 e14 (by intro z; cases z)
  have n3 : r.lE ≠ r.lC := by
    simp only [Rd.M, List.nodup_cons, List.mem_cons, List.not_mem_nil, or_false, not_or] at hmn
    exact hmn.2.2.2.1
  have hd : as = ds := by
    rw [e] at e14
    have := Option.some.inj e14
    injection this with this
    exact List.map_inj_right (fun _ _ z => by injection z) |>.mp this
  subst hd
  refine ⟨by rw [upd_ne n0]; exact e1, e2, fun x hx => ?_, by rw [q]; exact e4, by rw [q]; exact e5, e6, e7, e8, ⟨bs, by rw [upd_ne n1]; exact e9, by rw [q]; exact e10⟩, ⟨us, by rw [upd_ne n2]; exact e11, by rw [q]; exact e12⟩,
    by rw [upd_ne n3]; exact e13, ⟨as ++ [p], by rw [upd_same, List.map_append] <;> rfl, by rw [q]; exact e15.push hp⟩, ?_⟩
  · obtain ⟨u, hu⟩ := e3 x hx
    by_cases z : x = r.lC
    · exact ⟨_, by rw [z, upd_same]⟩
    · exact ⟨u, by rw [upd_ne z]; exact hu⟩
  · rw [List.length_append]
    show cs.length + 1 ≤ i
    omega
theorem RS.addEnt (h : RS K L H r i ss ps es cs) (b : Bytes) : RS K L (upd H r.lE (.lst (es.map sv ++ [sv b]))) r i ss ps (es ++ [b]) cs := by
  have hmn := h.mn
  obtain ⟨e1, e2, e3, e4, e5, e6, e7, e8, ⟨bs, e9, e10⟩, ⟨us, e11, e12⟩, e13, ⟨ds, e14, e15⟩, e16⟩ := h
  have q := off_upd (H := H) (o := .lst (es.map sv ++ [sv b])) (RS.lE_in L r)
  have n0 : r.a ≠ r.lE := ne_kind e1 e13 (by intro z; cases z)
  have n1 : r.dS ≠ r.lE := ne_kind e9 e13 (by intro z; cases z)
  have n2 : r.dP ≠ r.lE := ne_kind e11 e13 (by intro z; cases z)
  have n3 : r.lC ≠ r.lE := by
    simp only [Rd.M, List.nodup_cons, List.mem_cons, List.not_mem_nil, or_false, not_or] at hmn
    exact fun z => hmn.2.2.2.1 z.symm
  refine ⟨by rw [upd_ne n0]; exact e1, e2, fun x hx => ?_, by rw [q]; exact e4, by rw [q]; exact e5, e6, e7, e8, ⟨bs, by rw [upd_ne n1]; exact e9, by rw [q]; exact e10⟩, ⟨us, by rw [upd_ne n2]; exact e11, by rw [q]; exact e12⟩,
    by rw [upd_same, List.map_append] <;> rfl, ⟨ds, by rw [upd_ne n3]; exact e14, by rw [q]; exact e15⟩, e16⟩
  obtain ⟨u, hu⟩ := e3 x hx
  by_cases z : x = r.lE
  · exact ⟨_, by rw [z, upd_same]⟩
  · exact ⟨u, by rw [upd_ne z]; exact hu⟩
theorem RS.addSet (h : RS K L H r i ss ps es cs) (hps : ps = []) {p : Addr} {s : BSet} {kvs : List (Key × V)} (e : H r.dS = some (.dK kvs)) (hp : SetAt K (Off (L ++ r.M) H) p s) (hb : (ss.any fun x => x.name == s.name) = false) :
    RS K L (upd H r.dS (.dK (putK kvs (Sum.inr (tx s.name)) (.ref p)))) r i (ss ++ [s]) ps es cs := by
  subst hps
  have hmn := h.mn
  obtain ⟨e1, e2, e3, e4, e5, e6, e7, e8, ⟨bs, e9, e10⟩, ⟨us, e11, e12⟩, e13, ⟨ds, e14, e15⟩, e16⟩ := h
  have q := off_upd (H := H) (o := .dK (putK kvs (Sum.inr (tx s.name)) (.ref p))) (RS.dS_in L r)
  have n0 : r.a ≠ r.dS := ne_kind e1 e9 (by intro z; cases z)
  have n1 : r.lE ≠ r.dS := ne_kind e13 e9 (by intro z; cases z)
  have n2 : r.lC ≠ r.dS := ne_kind e14 e9 (by intro z; cases z)
  have n3 : r.dP ≠ r.dS := by
    simp only [Rd.M, List.nodup_cons, List.mem_cons, List.not_mem_nil, or_false, not_or] at hmn
    exact fun z => hmn.2.1.1 z.symm
  have hk : kvs = kvOf (ss.map fun s => s.name) bs := by
    rw [e] at e9
    have := Option.some.inj e9
    injection this
  subst hk
  have hput := putK_kv (a := p) (by rw [e10.len, List.length_map]) (show ((ss.map fun s => s.name).any fun x => x == s.name) = false by rw [List.any_map]; exact hb)
  cases e12
  refine ⟨by rw [upd_ne n0]; exact e1, e2, fun x hx => ?_, by rw [q]; exact e4, by rw [q]; exact e5, e6, e7, e8, ⟨bs ++ [p], by rw [upd_same, hput, List.map_append] <;> rfl, by rw [q]; exact e10.push hp⟩, ⟨[], by rw [upd_ne n3]; exact e11, .nil⟩,
    by rw [upd_ne n1]; exact e13, ⟨ds, by rw [upd_ne n2]; exact e14, by rw [q]; exact e15⟩, e16⟩
  obtain ⟨u, hu⟩ := e3 x hx
  by_cases z : x = r.dS
  · exact ⟨_, by rw [z, upd_same]⟩
  · exact ⟨u, by rw [upd_ne z]; exact hu⟩
theorem RS.addPart (h : RS K L H r i ss ps es cs) {p : Addr} {s : RawPart} {kvs : List (Key × V)} (e : H r.dP = some (.dK kvs)) (hp : PartAt K ss (Off (L ++ r.M) H) p s) (hb : (ps.any fun x => x.name == s.name) = false) :
    RS K L (upd H r.dP (.dK (putK kvs (Sum.inr (tx s.name)) (.ref p)))) r i ss (ps ++ [s]) es cs := by
  have hmn := h.mn
  obtain ⟨e1, e2, e3, e4, e5, e6, e7, e8, ⟨bs, e9, e10⟩, ⟨us, e11, e12⟩, e13, ⟨ds, e14, e15⟩, e16⟩ := h
  have q := off_upd (H := H) (o := .dK (putK kvs (Sum.inr (tx s.name)) (.ref p))) (RS.dP_in L r)
  have n0 : r.a ≠ r.dP := ne_kind e1 e11 (by intro z; cases z)
  have n1 : r.lE ≠ r.dP := ne_kind e13 e11 (by intro z; cases z)
  have n2 : r.lC ≠ r.dP := ne_kind e14 e11 (by intro z; cases z)
  have n3 : r.dS ≠ r.dP := by
    simp only [Rd.M, List.nodup_cons, List.mem_cons, List.not_mem_nil, or_false, not_or] at hmn
    exact hmn.2.1.1
  have hk : kvs = kvOf (ps.map fun s => s.name) us := by
    rw [e] at e11
    have := Option.some.inj e11
    injection this
  subst hk
  have hput := putK_kv (a := p) (by rw [e12.len, List.length_map]) (show ((ps.map fun s => s.name).any fun x => x == s.name) = false by rw [List.any_map]; exact hb)
  refine ⟨by rw [upd_ne n0]; exact e1, e2, fun x hx => ?_, by rw [q]; exact e4, by rw [q]; exact e5, e6, e7, e8, ⟨bs, by rw [upd_ne n3]; exact e9, by rw [q]; exact e10⟩, ⟨us ++ [p], by rw [upd_same, hput, List.map_append] <;> rfl, by rw [q]; exact e12.push hp⟩,
    by rw [upd_ne n1]; exact e13, ⟨ds, by rw [upd_ne n2]; exact e14, by rw [q]; exact e15⟩, e16⟩
  obtain ⟨u, hu⟩ := e3 x hx
  by_cases z : x = r.dP
  · exact ⟨_, by rw [z, upd_same]⟩
  · exact ⟨u, by rw [upd_ne z]; exact hu⟩
end
/-- what is raised at a fault; M: what may have changed -/
def Err (K : PySem.W.Frag) (M : List Addr) (H : Hp) (E : XK) (f : VakepBase.Fault) : Prop := ∀ d H', Same (Off M H) (Off M H') → FaultAt H' d f.code f.place → E (.ref (He.ga K "Fault")) (some d) H'
theorem Err.mono {K : PySem.W.Frag} {M : List Addr} {H H1 : Hp} {E : XK} {f : VakepBase.Fault} (h : Err K M H E f) (s : Same (Off M H) (Off M H1)) : Err K M H1 E f := fun d H' s' k => h d H' (s.trans s') k
theorem Err.raise {K : PySem.W.Frag} {M : List Addr} {H : Hp} {E : XK} {f : VakepBase.Fault} (h : Err K M H E f) : ∀ d, H d = none → E (.ref (He.ga K "Fault")) (some d) (upd H d (.xd [("place", .int f.place), ("code", .int f.code)])) :=
  fun d hd => h d _ (off_new hd) upd_same
end Vf

set_option Elab.async false
set_option linter.all false
set_option maxRecDepth 100000
set_option maxHeartbeats 4000000
/-! The reader's small defs. -/
namespace Vf
open PySem PySem.Spec PyProof.Rows L2
open VakepBase (Bytes PTok Toks RESERVED tokEq PName word)
open Vakepa (Piece Raw RawPart)
section
variable {P : Program} {w : World} {K : PySem.W.Frag} {mg : Str → Option Value} {base : Heap}
/-- an __init__ of C that keeps its arguments under these names -/
def spKeep1 (C : Addr) (f : Str) : Sp := fun vs H Q _ => ∃ (a dx : Addr) (u : V), vs = [.ref a, u] ∧ H a = some (.ins C dx []) ∧
  ∀ H' : Hp, H' a = some (.ins C dx [(f, u)]) → (∀ b, b ≠ a → H' b = H b) → Q .non H'
def spKeep2 (C : Addr) (f g : Str) : Sp := fun vs H Q _ => ∃ (a dx : Addr) (u v : V), vs = [.ref a, u, v] ∧ H a = some (.ins C dx []) ∧
  ∀ H' : Hp, H' a = some (.ins C dx [(f, u), (g, v)]) → (∀ b, b ≠ a → H' b = H b) → Q .non H'
def spKeep3 (C : Addr) (f g k : Str) : Sp := fun vs H Q _ => ∃ (a dx : Addr) (u v z : V), vs = [.ref a, u, v, z] ∧ H a = some (.ins C dx []) ∧
  ∀ H' : Hp, H' a = some (.ins C dx [(f, u), (g, v), (k, z)]) → (∀ b, b ≠ a → H' b = H b) → Q .non H'
theorem kept {H H' : Hp} {C x dx : Addr} (hx : H x = none) (hd : H dx = none) (h2 : ∀ b, b ≠ x → H' b = upd (upd H dx (.own x)) x (.ins C dx []) b) : Same H H' :=
  Same.made (C := C) hx hd fun b o e n => (h2 b n).trans e
abbrev N_Say_init : List Str := ["self", "amount"]
abbrev P_Say_init : List Str := ["self", "amount"]
theorem sc_Say_init : FnScope N_Say_init P_Say_init (defScope s_Say_init) := ⟨rfl, rfl, rfl, by decide +kernel, rfl, by decide +kernel, by decide +kernel⟩
theorem ok_Say_init (T : Tx K mg) : Df P w K mg base CX0 (1) (He.ma K (He.ga K "Say") "__init__") P_Say_init (spKeep1 (He.ga K "Say") "amount") := by
  refine df_mk (F_Say_init T) sc_Say_init (fun _ _ _ _ _ _ us hl => match us, hl with | [_, _], _ => rfl) (fun vs H Q E h => by obtain ⟨_, _, _, rfl, _⟩ := h; rfl) (fun cdv A outer s H vs Q E hr h => ⟨_, (pss_one (ps_fld (pv 0) (pv 1) rfl)), ?_⟩)
  obtain ⟨a, dx, u, rfl, ha, q⟩ := h
  refine ⟨_, rfl, _, rfl, a, _, dx, _, rfl, ha, c_Say T, n_Say_amount T, (by show 0 < 1000; decide), ?_⟩
  refine q _ upd_same fun b hb => ?_
  rw [upd_ne hb]
abbrev N_Call_init : List Str := ["self", "name"]
abbrev P_Call_init : List Str := ["self", "name"]
theorem sc_Call_init : FnScope N_Call_init P_Call_init (defScope s_Call_init) := ⟨rfl, rfl, rfl, by decide +kernel, rfl, by decide +kernel, by decide +kernel⟩
theorem ok_Call_init (T : Tx K mg) : Df P w K mg base CX0 (1) (He.ma K (He.ga K "Call") "__init__") P_Call_init (spKeep1 (He.ga K "Call") "name") := by
  refine df_mk (F_Call_init T) sc_Call_init (fun _ _ _ _ _ _ us hl => match us, hl with | [_, _], _ => rfl) (fun vs H Q E h => by obtain ⟨_, _, _, rfl, _⟩ := h; rfl) (fun cdv A outer s H vs Q E hr h => ⟨_, (pss_one (ps_fld (pv 0) (pv 1) rfl)), ?_⟩)
  obtain ⟨a, dx, u, rfl, ha, q⟩ := h
  refine ⟨_, rfl, _, rfl, a, _, dx, _, rfl, ha, c_Call T, n_Call_name T, (by show 0 < 1000; decide), ?_⟩
  refine q _ upd_same fun b hb => ?_
  rw [upd_ne hb]
abbrev N_Make_init : List Str := ["self", "pieces"]
abbrev P_Make_init : List Str := ["self", "pieces"]
theorem sc_Make_init : FnScope N_Make_init P_Make_init (defScope s_Make_init) := ⟨rfl, rfl, rfl, by decide +kernel, rfl, by decide +kernel, by decide +kernel⟩
theorem ok_Make_init (T : Tx K mg) : Df P w K mg base CX0 (1) (He.ma K (He.ga K "Make") "__init__") P_Make_init (spKeep1 (He.ga K "Make") "pieces") := by
  refine df_mk (F_Make_init T) sc_Make_init (fun _ _ _ _ _ _ us hl => match us, hl with | [_, _], _ => rfl) (fun vs H Q E h => by obtain ⟨_, _, _, rfl, _⟩ := h; rfl) (fun cdv A outer s H vs Q E hr h => ⟨_, (pss_one (ps_fld (pv 0) (pv 1) rfl)), ?_⟩)
  obtain ⟨a, dx, u, rfl, ha, q⟩ := h
  refine ⟨_, rfl, _, rfl, a, _, dx, _, rfl, ha, c_Make T, n_Make_pieces T, (by show 0 < 1000; decide), ?_⟩
  refine q _ upd_same fun b hb => ?_
  rw [upd_ne hb]
abbrev N_When_init : List Str := ["self", "setting", "word", "body"]
abbrev P_When_init : List Str := ["self", "setting", "word", "body"]
theorem sc_When_init : FnScope N_When_init P_When_init (defScope s_When_init) := ⟨rfl, rfl, rfl, by decide +kernel, rfl, by decide +kernel, by decide +kernel⟩
theorem ok_When_init (T : Tx K mg) : Df P w K mg base CX0 (1) (He.ma K (He.ga K "When") "__init__") P_When_init (spKeep3 (He.ga K "When") "setting" "word" "body") := by
  refine df_mk (F_When_init T) sc_When_init (fun _ _ _ _ _ _ us hl => match us, hl with | [_, _, _, _], _ => rfl) (fun vs H Q E h => by obtain ⟨_, _, _, _, _, rfl, _⟩ := h; rfl) (fun cdv A outer s H vs Q E hr h => ⟨_, (pss_cons (ps_fld (pv 0) (pv 1) rfl) (pss_cons (ps_fld (pv 0) (pv 2) rfl) (pss_one (ps_fld (pv 0) (pv 3) rfl)))), ?_⟩)
  obtain ⟨a, dx, u, v, z, rfl, ha, q⟩ := h
  refine ⟨_, rfl, _, rfl, a, _, dx, _, rfl, ha, c_When T, n_When_setting T, (by show 0 < 1000; decide), ?_⟩
  refine ⟨_, rfl, _, rfl, a, _, dx, _, rfl, upd_same, c_When T, n_When_word T, (by show 1 < 1000; decide), ?_⟩
  refine ⟨_, rfl, _, rfl, a, _, dx, _, rfl, upd_same, c_When T, n_When_body T, (by show 2 < 1000; decide), ?_⟩
  refine q _ upd_same fun b hb => ?_
  rw [upd_ne hb, upd_ne hb, upd_ne hb]
abbrev N_Setting_init : List Str := ["self", "name", "words"]
abbrev P_Setting_init : List Str := ["self", "name", "words"]
theorem sc_Setting_init : FnScope N_Setting_init P_Setting_init (defScope s_Setting_init) := ⟨rfl, rfl, rfl, by decide +kernel, rfl, by decide +kernel, by decide +kernel⟩
theorem ok_Setting_init (T : Tx K mg) : Df P w K mg base CX0 (1) (He.ma K (He.ga K "Setting") "__init__") P_Setting_init (spKeep2 (He.ga K "Setting") "name" "words") := by
  refine df_mk (F_Setting_init T) sc_Setting_init (fun _ _ _ _ _ _ us hl => match us, hl with | [_, _, _], _ => rfl) (fun vs H Q E h => by obtain ⟨_, _, _, _, rfl, _⟩ := h; rfl) (fun cdv A outer s H vs Q E hr h => ⟨_, (pss_cons (ps_fld (pv 0) (pv 1) rfl) (pss_one (ps_fld (pv 0) (pv 2) rfl))), ?_⟩)
  obtain ⟨a, dx, u, v, rfl, ha, q⟩ := h
  refine ⟨_, rfl, _, rfl, a, _, dx, _, rfl, ha, c_Setting T, n_Setting_name T, (by show 0 < 1000; decide), ?_⟩
  refine ⟨_, rfl, _, rfl, a, _, dx, _, rfl, upd_same, c_Setting T, n_Setting_words T, (by show 1 < 1000; decide), ?_⟩
  refine q _ upd_same fun b hb => ?_
  rw [upd_ne hb, upd_ne hb]
abbrev N_Part_init : List Str := ["self", "name", "size", "body"]
abbrev P_Part_init : List Str := ["self", "name", "size", "body"]
theorem sc_Part_init : FnScope N_Part_init P_Part_init (defScope s_Part_init) := ⟨rfl, rfl, rfl, by decide +kernel, rfl, by decide +kernel, by decide +kernel⟩
theorem ok_Part_init (T : Tx K mg) : Df P w K mg base CX0 (1) (He.ma K (He.ga K "Part") "__init__") P_Part_init (spKeep3 (He.ga K "Part") "name" "size" "body") := by
  refine df_mk (F_Part_init T) sc_Part_init (fun _ _ _ _ _ _ us hl => match us, hl with | [_, _, _, _], _ => rfl) (fun vs H Q E h => by obtain ⟨_, _, _, _, _, rfl, _⟩ := h; rfl) (fun cdv A outer s H vs Q E hr h => ⟨_, (pss_cons (ps_fld (pv 0) (pv 1) rfl) (pss_cons (ps_fld (pv 0) (pv 2) rfl) (pss_one (ps_fld (pv 0) (pv 3) rfl)))), ?_⟩)
  obtain ⟨a, dx, u, v, z, rfl, ha, q⟩ := h
  refine ⟨_, rfl, _, rfl, a, _, dx, _, rfl, ha, c_Part T, n_Part_name T, (by show 0 < 1000; decide), ?_⟩
  refine ⟨_, rfl, _, rfl, a, _, dx, _, rfl, upd_same, c_Part T, n_Part_size T, (by show 1 < 1000; decide), ?_⟩
  refine ⟨_, rfl, _, rfl, a, _, dx, _, rfl, upd_same, c_Part T, n_Part_body T, (by show 2 < 1000; decide), ?_⟩
  refine q _ upd_same fun b hb => ?_
  rw [upd_ne hb, upd_ne hb, upd_ne hb]
abbrev N_Reader_ahead : List Str := ["self"]
abbrev P_Reader_ahead : List Str := ["self"]
theorem sc_Reader_ahead : FnScope N_Reader_ahead P_Reader_ahead (defScope s_Reader_ahead) := ⟨rfl, rfl, rfl, by decide +kernel, rfl, by decide +kernel, by decide +kernel⟩
def sp_ahead (K : PySem.W.Frag) : Sp := fun vs H Q _ => ∃ (r : Rd) (i : Nat) (p : Addr), vs = [.ref r.a] ∧ RA K H r i ∧ r.tps[i]? = some p ∧ Q (.ref p) H
theorem ok_Reader_ahead (T : Tx K mg) : Df P w K mg base CX0 (1) (He.ma K (He.ga K "Reader") "ahead") P_Reader_ahead (sp_ahead K) := by
  refine df_mk (F_Reader_ahead T) sc_Reader_ahead (fun _ _ _ _ _ _ us hl => match us, hl with | [_], _ => rfl) (fun vs H Q E h => by obtain ⟨_, _, _, rfl, _⟩ := h; rfl) (fun cdv A outer s H vs Q E hr h => ⟨_, (pss_one (ps_ret (pe_ix ix_list (pe_fld (pv 0) rfl) (pe_fld (pv 0) rfl) (fun _ _ => rfl)))), ?_⟩)
  obtain ⟨r, i, p, rfl, ra, hp, q⟩ := h
  refine ⟨_, rfl, r.a, _, r.dx, _, _, rfl, ra.obj, c_Reader T, n_Reader_tokens T, rfl, _, rfl, r.a, _, r.dx, _, _, rfl, ra.obj, c_Reader T, n_Reader_at T, rfl, ?_⟩
  refine ⟨_, _, _, _, rfl, rfl, SqL.of ra.lt, atI_nat (by rw [List.getElem?_map, hp] <;> rfl), q⟩
theorem iteN {c : Prop} [Decidable c] {A B : Prop} (h1 : ¬ c → A) (h2 : c → B) : if (!decide c) = true then A else B := by
  by_cases h : c
  · rw [decide_eq_true h]
    exact h2 h
  · rw [decide_eq_false h]
    exact h1 h
theorem str_v {a b : Str} : V.str a = V.str b ↔ a = b := ⟨fun h => by injection h, fun h => by rw [h]⟩
theorem RA.tok (T : Tx K mg) {H : Hp} {r : Rd} {i : Nat} {t : PTok} (ra : RA K H r i) (ht : r.toks[i]? = some t) : ∃ p dx z, r.tps[i]? = some p ∧ H p = some (.ins (He.ga K "Token") dx (tokF (kindOf t.tok) z t.place)) ∧ TextOk t.tok z := by
  obtain ⟨p, z, h1, dx, h2, h3⟩ := ra.toks.at_ ht
  exact ⟨p, dx, z, h1, h2, h3⟩
abbrev N_Reader_take : List Str := ["self", "kind", "token"]
abbrev P_Reader_take : List Str := ["self", "kind"]
theorem sc_Reader_take : FnScope N_Reader_take P_Reader_take (defScope s_Reader_take) := ⟨rfl, rfl, rfl, by decide +kernel, rfl, by decide +kernel, by decide +kernel⟩
/-- the reader goes on if the next token is of this kind, else fault 3 -/
def sp_take (K : PySem.W.Frag) : Sp := fun vs H Q E => ∃ (r : Rd) (i : Nat) (t : PTok) (k : Str), vs = [.ref r.a, .str k] ∧ RA K H r i ∧ r.toks[i]? = some t ∧
  (∀ p dx z, r.tps[i]? = some p → H p = some (.ins (He.ga K "Token") dx (tokF (kindOf t.tok) z t.place)) → TextOk t.tok z → kindOf t.tok = k → Q (.ref p) (upd H r.a (rdO K r (i + 1)))) ∧
  (kindOf t.tok ≠ k → ∀ d, H d = none → E (.ref (He.ga K "Fault")) (some d) (upd H d (.xd [("place", .int t.place), ("code", .int 3)])))
theorem ok_Reader_take (T : Tx K mg) (D_Reader_ahead : Df P w K mg base CX0 (1) (He.ma K (He.ga K "Reader") "ahead") P_Reader_ahead (sp_ahead K)) (D_Fault_init : Df P w K mg base CX0 (1) (He.ma K (He.ga K "Fault") "__init__") P_Fault_init (spFault (He.ga K "Fault"))) : Df P w K mg base (L2.CX P w) (3) (He.ma K (He.ga K "Reader") "take") P_Reader_take (sp_take K) := by
  refine dfx_mk (F_Reader_take T) sc_Reader_take (fun _ _ _ _ _ _ us hl => match us, hl with | [_, _], _ => rfl) (fun vs H Q E h => by obtain ⟨_, _, _, _, rfl, _⟩ := h; rfl) (fun cdv A outer s H vs Q E hr h => ⟨_, (pss_cons (ps_set (i := 2) sc_Reader_take.nd rfl (Or.inl rfl) (pm0 D_Reader_ahead (c_Reader T) (m_Reader_ahead T)  hr (pv 0))) (pss_cons (ps_if (pt_cmpR op_ne (pe_fld (pv 2) rfl) (pv 1) (nomark _)) (pss_one (ps_raise rfl (takes_of rfl rfl rfl rfl) (pfault D_Fault_init (ecl_of (e_2 T)) (of_decide_eq_true (e_6 T)) (of_decide_eq_true (e_7 T)) (g_Fault T) hr (pa_cons (pg (i_NOT_ALLOWED T)) (pa_cons (pe_fld (pv 2) rfl) pa_nil))))) pss_nil) (pss_cons (ps_fldaug (pv 0) pe_int in_add) (pss_one (ps_ret (pv 2)))))), ?_⟩)
  obtain ⟨r, i, t, k, rfl, ra, ht, q1, q2⟩ := h
  obtain ⟨p, dx, z, hp, h2, h3⟩ := ra.tok T ht
  refine ⟨_, rfl, r.a, r.dx, _, rfl, ra.obj, rfl, r, i, p, rfl, ra, hp, ?_⟩
  refine ⟨_, rfl, p, _, dx, _, _, rfl, h2, c_Token T, n_Token_kind T, rfl, _, rfl, rfl, _, rfl, ?_⟩
  refine iteN (fun h => ?_) (fun h => ?_)
  · refine ⟨_, rfl, p, _, dx, _, _, rfl, h2, c_Token T, n_Token_place T, rfl, ?_⟩
    exact born (q2 fun z => h (str_v.mpr z))
  · refine ⟨_, rfl, r.a, _, r.dx, _, _, rfl, ra.obj, c_Reader T, n_Reader_at T, rfl, _, _, rfl, rfl, r.dx, _, ra.obj, (by show 6 < 1000; decide), _, rfl, ?_⟩
    exact q1 p dx z hp h2 h3 (str_v.mp h)
abbrev N_Reader_take_if : List Str := ["self", "kind"]
abbrev P_Reader_take_if : List Str := ["self", "kind"]
theorem sc_Reader_take_if : FnScope N_Reader_take_if P_Reader_take_if (defScope s_Reader_take_if) := ⟨rfl, rfl, rfl, by decide +kernel, rfl, by decide +kernel, by decide +kernel⟩
def sp_take_if (K : PySem.W.Frag) : Sp := fun vs H Q E => ∃ (r : Rd) (i : Nat) (t : PTok) (k : Str), vs = [.ref r.a, .str k] ∧ RA K H r i ∧ r.toks[i]? = some t ∧
  (kindOf t.tok = k → Q (.bl true) (upd H r.a (rdO K r (i + 1)))) ∧ (kindOf t.tok ≠ k → Q (.bl false) H)
theorem ok_Reader_take_if (T : Tx K mg) (D_Reader_ahead : Df P w K mg base CX0 (1) (He.ma K (He.ga K "Reader") "ahead") P_Reader_ahead (sp_ahead K)) : Df P w K mg base CX0 (2) (He.ma K (He.ga K "Reader") "take_if") P_Reader_take_if (sp_take_if K) := by
  refine df_mk (F_Reader_take_if T) sc_Reader_take_if (fun _ _ _ _ _ _ us hl => match us, hl with | [_, _], _ => rfl) (fun vs H Q E h => by obtain ⟨_, _, _, _, rfl, _⟩ := h; rfl) (fun cdv A outer s H vs Q E hr h => ⟨_, (pss_cons (ps_if (pt_cmpR op_ne (pe_fld (pm0 D_Reader_ahead (c_Reader T) (m_Reader_ahead T)  hr (pv 0)) rfl) (pv 1) (nomark _)) (pss_one (ps_ret pe_bl)) pss_nil) (pss_cons (ps_fldaug (pv 0) pe_int in_add) (pss_one (ps_ret pe_bl)))), ?_⟩)
  obtain ⟨r, i, t, k, rfl, ra, ht, q1, q2⟩ := h
  obtain ⟨p, dx, z, hp, h2, h3⟩ := ra.tok T ht
  refine ⟨_, rfl, r.a, r.dx, _, rfl, ra.obj, rfl, r, i, p, rfl, ra, hp, ?_⟩
  refine ⟨p, _, dx, _, _, rfl, h2, c_Token T, n_Token_kind T, rfl, _, rfl, rfl, _, rfl, ?_⟩
  refine iteN (fun h => ?_) (fun h => ?_)
  · exact q2 fun z => h (str_v.mpr z)
  · refine ⟨_, rfl, r.a, _, r.dx, _, _, rfl, ra.obj, c_Reader T, n_Reader_at T, rfl, _, _, rfl, rfl, r.dx, _, ra.obj, (by show 6 < 1000; decide), ?_⟩
    exact q1 (str_v.mp h)
abbrev N_check_room : List Str := ["token", "earlier", "most"]
abbrev P_check_room : List Str := ["token", "earlier", "most"]
theorem sc_check_room : FnScope N_check_room P_check_room (defScope s_check_room) := ⟨rfl, rfl, rfl, by decide +kernel, rfl, by decide +kernel, by decide +kernel⟩
/-- how many things a list or a dict has -/
def HasLen (H : Hp) (a : Addr) (n : Nat) : Prop := (∃ xs, xs.length = n ∧ H a = some (.lst xs)) ∨ ∃ kvs, kvs.length = n ∧ H a = some (.dK kvs)
def sp_check_room (K : PySem.W.Frag) : Sp := fun vs H Q E => ∃ (p dx a : Addr) (k z : Str) (pl n : Nat) (m : Int), vs = [.ref p, .ref a, .int m] ∧ H p = some (.ins (He.ga K "Token") dx (tokF k z pl)) ∧ HasLen H a n ∧ 
  ((n : Int) ≠ m → Q .non H) ∧ ((n : Int) = m → ∀ d, H d = none → E (.ref (He.ga K "Fault")) (some d) (upd H d (.xd [("place", .int pl), ("code", .int 4)])))
theorem ok_check_room (T : Tx K mg) (D_Fault_init : Df P w K mg base CX0 (1) (He.ma K (He.ga K "Fault") "__init__") P_Fault_init (spFault (He.ga K "Fault"))) : Df P w K mg base (L2.CX P w) (3) (He.ga K "check_room") P_check_room (sp_check_room K) := by
  refine dfx_mk (F_check_room T) sc_check_room (fun _ _ _ _ _ _ us hl => match us, hl with | [_, _, _], _ => rfl) (fun vs H Q E h => by obtain ⟨_, _, _, _, _, _, _, _, rfl, _⟩ := h; rfl) (fun cdv A outer s H vs Q E hr h => ⟨_, (pss_one (ps_if (pt_cmpR op_eq (pe_callB (callR_or call_len_seq call_lenD) (by rfl) (b_len T) PySem.boot_len (pa_cons (pv 1) pa_nil)) (pv 2) (nomark _)) (pss_one (ps_raise rfl (takes_of rfl rfl rfl rfl) (pfault D_Fault_init (ecl_of (e_2 T)) (of_decide_eq_true (e_6 T)) (of_decide_eq_true (e_7 T)) (g_Fault T) hr (pa_cons (pg (i_TOO_MANY T)) (pa_cons (pe_fld (pv 0) rfl) pa_nil))))) pss_nil)), ?_⟩)
  obtain ⟨p, dx, a, k, z, pl, n, m, rfl, hp, ha, q1, q2⟩ := h
  have go : ∀ B : Prop, (if decide (V.int (n : Int) = V.int m) = true then B else Q .non H) → True := fun _ _ => trivial
  refine ⟨_, rfl, ?_⟩
  rcases ha with ⟨xs, rfl, ha⟩ | ⟨kvs, rfl, ha⟩
  · refine .inl ⟨a, _, rfl, .inl (SqL.of ha), _, rfl, rfl, _, rfl, ?_⟩
    refine iteD (fun h => ?_) (fun h => ?_)
    · refine ⟨_, rfl, p, _, dx, _, _, rfl, hp, c_Token T, n_Token_place T, rfl, ?_⟩
      exact born (q2 (by injection h))
    · exact q1 fun z => h (by rw [z])
  · refine .inr ⟨a, _, rfl, ha, _, rfl, rfl, _, rfl, ?_⟩
    refine iteD (fun h => ?_) (fun h => ?_)
    · refine ⟨_, rfl, p, _, dx, _, _, rfl, hp, c_Token T, n_Token_place T, rfl, ?_⟩
      exact born (q2 (by injection h))
    · exact q1 fun z => h (by rw [z])
abbrev N_check_known : List Str := ["token", "known"]
abbrev P_check_known : List Str := ["token", "known"]
theorem sc_check_known : FnScope N_check_known P_check_known (defScope s_check_known) := ⟨rfl, rfl, rfl, by decide +kernel, rfl, by decide +kernel, by decide +kernel⟩
/-- the names in a list, or the keys of a dict -/
def HasNames (H : Hp) (a : Addr) (ns : List Bytes) : Prop := H a = some (.lst (ns.map sv)) ∨ ∃ as, as.length = ns.length ∧ H a = some (.dK (kvOf ns as))
def sp_check_known (K : PySem.W.Frag) : Sp := fun vs H Q E => ∃ (p dx a : Addr) (k : Str) (b : Bytes) (pl : Nat) (ns : List Bytes), vs = [.ref p, .ref a] ∧ H p = some (.ins (He.ga K "Token") dx (tokF k (tx b) pl)) ∧ HasNames H a ns ∧
  ((ns.any fun x => x == b) = true → Q .non H) ∧ ((ns.any fun x => x == b) = false → ∀ d, H d = none → E (.ref (He.ga K "Fault")) (some d) (upd H d (.xd [("place", .int pl), ("code", .int 8)])))
theorem names_in (b : Bytes) (ns : List Bytes) : inV (sv b) (ns.map sv) = ns.any fun x => x == b := by
  unfold inV
  rw [List.any_map]
  congr 1
  funext x
  show decide (tx x = tx b) = (x == b)
  rw [Bool.eq_iff_iff, decide_eq_true_eq, beq_iff_eq]
  exact ⟨tx_inj, fun z => by rw [z]⟩
theorem flat_names (ns : List Bytes) : (ns.map sv).all flatV = true := by
  rw [List.all_map, List.all_eq_true]
  exact fun _ _ => rfl
theorem some_kv (b : Bytes) {ns : List Bytes} {as : List Addr} (h : as.length = ns.length) : (valV (kvOf ns as) (Sum.inr (tx b) : Key)).isSome = ns.any fun x => x == b := by
  have e := any_kv b h
  unfold valV
  rw [Option.isSome_map, ← e, Bool.eq_iff_iff, List.find?_isSome, List.any_eq_true]
theorem iteNB {c : Bool} {A B : Prop} (h1 : c = false → A) (h2 : c = true → B) : if (!c) = true then A else B := by
  cases c with
  | true => exact h2 rfl
  | false => exact h1 rfl
theorem ok_check_known (T : Tx K mg) (D_Fault_init : Df P w K mg base CX0 (1) (He.ma K (He.ga K "Fault") "__init__") P_Fault_init (spFault (He.ga K "Fault"))) : Df P w K mg base (L2.CX P w) (3) (He.ga K "check_known") P_check_known (sp_check_known K) := by
  refine dfx_mk (F_check_known T) sc_check_known (fun _ _ _ _ _ _ us hl => match us, hl with | [_, _], _ => rfl) (fun vs H Q E h => by obtain ⟨_, _, _, _, _, _, _, rfl, _⟩ := h; rfl) (fun cdv A outer s H vs Q E hr h => ⟨_, (pss_one (ps_if (pt_cmpR (opR_or op_notIn_seq (op_dnotin (hu_of hr))) (pe_fld (pv 0) rfl) (pv 1) (by rfl)) (pss_one (ps_raise rfl (takes_of rfl rfl rfl rfl) (pfault D_Fault_init (ecl_of (e_2 T)) (of_decide_eq_true (e_6 T)) (of_decide_eq_true (e_7 T)) (g_Fault T) hr (pa_cons (pg (i_UNKNOWN_NAME T)) (pa_cons (pe_fld (pv 0) rfl) pa_nil))))) pss_nil)), ?_⟩)
  obtain ⟨p, dx, a, k, b, pl, ns, rfl, hp, ha, q1, q2⟩ := h
  refine ⟨_, rfl, p, _, dx, _, _, rfl, hp, c_Token T, n_Token_text T, rfl, _, rfl, ?_⟩
  rcases ha with ha | ⟨as, hl, ha⟩
  · refine .inl ⟨a, _, rfl, .inl (SqL.of ha), rfl, flat_names ns, _, rfl, ?_⟩
    refine iteNB (fun h => ?_) (fun h => ?_)
    · refine ⟨_, rfl, p, _, dx, _, _, rfl, hp, c_Token T, n_Token_place T, rfl, ?_⟩
      exact born (q2 (by rw [← names_in]; exact h))
    · exact q1 (by rw [← names_in]; exact h)
  · refine .inr ⟨a, _, rfl, DGet.k (k := Sum.inr (tx b)) ha, _, rfl, ?_⟩
    refine iteNB (fun h => ?_) (fun h => ?_)
    · refine ⟨_, rfl, p, _, dx, _, _, rfl, hp, c_Token T, n_Token_place T, rfl, ?_⟩
      exact born (q2 (by rw [← some_kv b hl]; exact h))
    · exact q1 (by rw [← some_kv b hl]; exact h)
/-! ### the specification's steps over the tokens from a place on -/
/-- the tokens from the i-th on -/
abbrev Rd.at_ (r : Rd) (i : Nat) : Toks := r.toks.drop i
theorem rest_cons {r : Rd} {i : Nat} {t : PTok} (h : r.toks[i]? = some t) : r.at_ i = t :: r.at_ (i + 1) := drop_get h
theorem here_at {r : Rd} {i : Nat} {t : PTok} (h : r.toks[i]? = some t) : VakepBase.here (r.at_ i) = t.place := by rw [rest_cons h] <;> rfl
theorem RS.tok_at {L : List Addr} {H : Hp} {r : Rd} {i : Nat} {ss : List BSet} {ps : List RawPart} {es : List Bytes} {cs : List PName} (h : RS K L H r i ss ps es cs) : ∃ t, r.toks[i]? = some t := ⟨_, List.getElem?_eq_getElem h.hi⟩
/-- the next token after one that is no end -/
theorem RS.more {L : List Addr} {H : Hp} {r : Rd} {i : Nat} {ss : List BSet} {ps : List RawPart} {es : List Bytes} {cs : List PName} (h : RS K L H r i ss ps es cs) {t : PTok} (e : r.toks[i]? = some t) (ht : t.tok ≠ .last) : i + 1 < r.toks.length := h.wf.next e ht
theorem not_last {t : BTok} {k : Str} (h : kindOf t = k) (hk : k ≠ "end" := by decide +kernel) : t ≠ .last := fun z => by
  subst z
  exact hk h.symm
abbrev N_Reader_read_amount : List Str := ["self", "number", "amount"]
abbrev P_Reader_read_amount : List Str := ["self"]
theorem sc_Reader_read_amount : FnScope N_Reader_read_amount P_Reader_read_amount (defScope s_Reader_read_amount) := ⟨rfl, rfl, rfl, by decide +kernel, rfl, by decide +kernel, by decide +kernel⟩
def sp_read_amount (K : PySem.W.Frag) : Sp := fun vs H Q E => ∃ (r : Rd) (i : Nat) (t : PTok), vs = [.ref r.a] ∧ RA K H r i ∧ r.toks[i]? = some t ∧
  (∀ f, Vakepa.takeNat Vakepa.SIZE (r.at_ i) = .error f → ∀ d H', Same (Off r.M H) (Off r.M H') → FaultAt H' d f.code f.place → E (.ref (He.ga K "Fault")) (some d) H') ∧
  (∀ n, Vakepa.takeNat Vakepa.SIZE (r.at_ i) = .ok (n, r.at_ (i + 1)) → t.tok ≠ .last → Q (.int n) (upd H r.a (rdO K r (i + 1))))
theorem ok_Reader_read_amount (T : Tx K mg) (D_Reader_take : Df P w K mg base (L2.CX P w) (3) (He.ma K (He.ga K "Reader") "take") P_Reader_take (sp_take K)) (D_Fault_init : Df P w K mg base CX0 (1) (He.ma K (He.ga K "Fault") "__init__") P_Fault_init (spFault (He.ga K "Fault"))) : Df P w K mg base (L2.CX P w) (4) (He.ma K (He.ga K "Reader") "read_amount") P_Reader_read_amount (sp_read_amount K) := by
  refine dfx_mk (F_Reader_read_amount T) sc_Reader_read_amount (fun _ _ _ _ _ _ us hl => match us, hl with | [_], _ => rfl) (fun vs H Q E h => by obtain ⟨_, _, _, rfl, _⟩ := h; rfl) (fun cdv A outer s H vs Q E hr h => ⟨_, (pss_cons (ps_set (i := 1) sc_Reader_read_amount.nd rfl (Or.inl rfl) (pmx D_Reader_take (c_Reader T) (m_Reader_take T) (takes_of rfl rfl rfl rfl) hr (pv 0) (pa_cons (pg (t_NUMBER T)) pa_nil))) (pss_cons (ps_set (i := 2) sc_Reader_read_amount.nd rfl (Or.inl rfl) (pe_callTy call_int_str (by rfl) (b_int T) (by decide +kernel) (pa_cons (pe_fld (pv 1) rfl) pa_nil))) (pss_cons (ps_if (pt_not (pt_chain op_le op_le pe_int (pv 2) (pg (i_GREATEST_AMOUNT T)))) (pss_one (ps_raise rfl (takes_of rfl rfl rfl rfl) (pfault D_Fault_init (ecl_of (e_2 T)) (of_decide_eq_true (e_6 T)) (of_decide_eq_true (e_7 T)) (g_Fault T) hr (pa_cons (pg (i_OUT_OF_RANGE T)) (pa_cons (pe_fld (pv 1) rfl) pa_nil))))) pss_nil) (pss_one (ps_ret (pv 2)))))), ?_⟩)
  obtain ⟨r, i, t, rfl, ra, ht, q1, q2⟩ := h
  have hrest := rest_cons ht
  have hla : r.a ∈ r.M := List.mem_cons_self ..
  refine ⟨_, rfl, r.a, r.dx, _, rfl, ra.obj, rfl, r, i, t, _, rfl, ra, ht, fun p dx z hp hP hz hk => ?_, fun hk d hd => ?_⟩
  · obtain ⟨n, hn⟩ := (kind_number _).mp hk
    obtain ⟨pl, tk⟩ := t
    dsimp only at hn hz hP
    subst hn
    obtain ⟨l, rfl, hl, hall⟩ := hz
    have hn := VakepBase.numberOf
    have hp2 : upd H r.a (rdO K r (i + 1)) p = some (.ins (He.ga K "Token") dx (tokF (kindOf (.num n)) (tx l) pl)) := by
      rw [upd_ne (ne_kind hP ra.obj (by intro z; injection z with _ _ z; injection z with z _; injection z with z _; exact absurd z (by decide +kernel)))]
      exact hP
    have hnum : VakepBase.numberOf l = if l = [] ∨ 10 < l.length ∨ (1 < l.length ∧ l.head? = some 48) ∨ VakepBase.NUMBER < VakepBase.decimal l then none else some (VakepBase.decimal l) := rfl
    have hcond : ¬ (l = [] ∨ 10 < l.length ∨ (1 < l.length ∧ l.head? = some 48) ∨ VakepBase.NUMBER < VakepBase.decimal l) := fun z => by
      rw [hnum, if_pos z] at hl
      cases hl
    rw [hnum, if_neg hcond] at hl
    have hdec : VakepBase.decimal l = n := Option.some.inj hl
    have hne : l ≠ [] := fun z => hcond (.inl z)
    have hlen : l.length ≤ 10 := Nat.le_of_not_lt fun z => hcond (.inr (.inl z))
    have hspec : Vakepa.takeNat Vakepa.SIZE (r.at_ i) = if n < 1 ∨ 99 < n then .error ⟨7, pl⟩ else .ok (n, r.at_ (i + 1)) := by
      rw [hrest] <;> rfl
    refine ⟨_, rfl, p, _, dx, _, _, rfl, hp2, c_Token T, n_Token_text T, rfl, _, _, rfl, int_tx hall hne (by omega), by rw [tx_len]; omega, ?_⟩
    rw [hdec]
    refine ⟨_, rfl, _, _, rfl, rfl, _, rfl, ?_⟩
    have bad : (n < 1 ∨ 99 < n) → ∀ d, upd H r.a (rdO K r (i + 1)) d = none → E (.ref (He.ga K "Fault")) (some d) (upd (upd H r.a (rdO K r (i + 1))) d (.xd [("place", .int pl), ("code", .int 7)])) := fun z d hd => by
      refine q1 ⟨7, pl⟩ (by rw [hspec, if_pos z]) d _ ?_ upd_same
      have := off_upd (H := H) (o := rdO K r (i + 1)) hla
      rw [← this]
      exact off_new hd
    refine iteD (fun h1 => ?_) (fun h1 => ?_)
    · refine ⟨_, _, rfl, rfl, _, rfl, ?_⟩
      refine iteN (fun h2 => ?_) (fun h2 => ?_)
      · refine ⟨_, rfl, p, _, dx, _, _, rfl, hp2, c_Token T, n_Token_place T, rfl, ?_⟩
        exact born (bad (.inr (by omega)))
      · exact ⟨_, rfl, q2 n (by rw [hspec, if_neg (by omega)]) (fun z => nomatch z)⟩
    · refine ⟨_, rfl, ?_⟩
      refine ⟨_, rfl, p, _, dx, _, _, rfl, hp2, c_Token T, n_Token_place T, rfl, ?_⟩
      exact born (bad (.inl (by omega)))
  · refine q1 ⟨3, t.place⟩ ?_ d _ (off_new hd) upd_same
    rw [hrest]
    obtain ⟨pl, tk⟩ := t
    cases tk with
    | num n => exact absurd rfl hk
    | _ => rfl
end
end Vf

set_option Elab.async false
set_option linter.all false
set_option maxRecDepth 100000
set_option maxHeartbeats 4000000
/-! The reader's plain statements. -/
namespace Vf
open PySem PySem.Spec PyProof.Rows L2
open VakepBase (Bytes PTok Toks RESERVED tokEq PName word taken takeName takeSign takeWord)
open Vakepa (Piece Raw RawPart)
section
variable {P : Program} {w : World} {K : PySem.W.Frag} {mg : Str → Option Value} {base : Heap}
theorem take_ok {r : Rd} {i : Nat} {t : PTok} {t0 : BTok} (ht : r.toks[i]? = some t) (e : tokEq t.tok t0 = true) : taken t0 (r.at_ i) = .ok (r.at_ (i + 1)) := by
  rw [rest_cons ht]
  show (if tokEq t.tok t0 = true then _ else _) = _
  rw [if_pos e] <;> rfl
theorem take_no {r : Rd} {i : Nat} {t : PTok} {t0 : BTok} (ht : r.toks[i]? = some t) (e : ¬ tokEq t.tok t0 = true) : taken t0 (r.at_ i) = .error ⟨3, t.place⟩ := by
  rw [rest_cons ht]
  show (if tokEq t.tok t0 = true then _ else _) = _
  rw [if_neg e] <;> rfl
theorem next_is {r : Rd} {i : Nat} {t : PTok} {t0 : BTok} (ht : r.toks[i]? = some t) : VakepBase.next t0 (r.at_ i) = tokEq t.tok t0 := by
  rw [rest_cons ht] <;> rfl
theorem name_ok {r : Rd} {i : Nat} {t : PTok} {b : Bytes} (ht : r.toks[i]? = some t) (e : t.tok = .name b) (hb : RESERVED.contains b = false) : takeName (r.at_ i) = .ok (⟨t.place, b⟩, r.at_ (i + 1)) := by
  rw [rest_cons ht]
  obtain ⟨p, tk⟩ := t
  dsimp only at e
  subst e
  show (if RESERVED.contains b = true then _ else _) = _
  rw [if_neg (by rw [hb]; decide)]
theorem name_no {r : Rd} {i : Nat} {t : PTok} (ht : r.toks[i]? = some t) (h : kindOf t.tok ≠ "name") : takeName (r.at_ i) = .error ⟨3, t.place⟩ := by
  rw [rest_cons ht]
  obtain ⟨p, tk⟩ := t
  cases tk with
  | name b =>
    show (if RESERVED.contains b = true then _ else _) = _
    rw [if_pos]
    · rfl
    · cases hb : RESERVED.contains b with
      | true => rfl
      | false => exact absurd ((kind_name _).mpr ⟨b, rfl, hb⟩) h
  | _ => rfl
theorem drop_one {r : Rd} {i : Nat} {t : PTok} (ht : r.toks[i]? = some t) : (r.at_ i).drop 1 = r.at_ (i + 1) := by
  rw [rest_cons ht] <;> rfl
theorem frm_a (r : Rd) (H : Hp) (o : HO) : Same (Off r.M H) (Off r.M (upd H r.a o)) := by
  have e : r.a ∈ r.M := List.mem_cons_self ..
  rw [off_upd e]
  exact Same.refl _
/-- what follows a statement that was read -/
def StOk (K : PySem.W.Frag) (L : List Addr) (H : Hp) (Q : VK) (r : Rd) (i : Nat) (ss : List BSet) (ps : List RawPart) (es : List Bytes) (cs : List PName) (R : Except VakepBase.Fault (Raw × Toks)) : Prop :=
  ∀ x l', R = .ok (x, l') → ∀ v H' i', Same (Off r.M H) (Off r.M H') → RS K L H' r i' ss ps es (cs ++ callees x) → l' = r.at_ i' → i < i' → BodyAt K ss (Off (L ++ r.M) H') x [v] → Q v H'
def spStmt (K : PySem.W.Frag) (kw : Str) (R : List BSet → Toks → Except VakepBase.Fault (Raw × Toks)) : Sp := fun vs H Q E => ∃ (L : List Addr) (r : Rd) (i : Nat) (ss : List BSet) (ps : List RawPart) (es : List Bytes) (cs : List PName) (t : PTok),
  vs = [.ref r.a] ∧ RS K L H r i ss ps es cs ∧ r.toks[i]? = some t ∧ kindOf t.tok = kw ∧ (∀ f, R ss (r.at_ i) = .error f → Err K r.M H E f) ∧ StOk K L H Q r i ss ps es cs (R ss (r.at_ i))
abbrev N_Reader_read_say : List Str := ["self", "amount"]
abbrev P_Reader_read_say : List Str := ["self"]
theorem sc_Reader_read_say : FnScope N_Reader_read_say P_Reader_read_say (defScope s_Reader_read_say) := ⟨rfl, rfl, rfl, by decide +kernel, rfl, by decide +kernel, by decide +kernel⟩
theorem RS.step {L : List Addr} {H : Hp} {r : Rd} {i : Nat} {ss : List BSet} {ps : List RawPart} {es : List Bytes} {cs : List PName} (h : RS K L H r i ss ps es cs) {t : PTok} (e : r.toks[i]? = some t) (ht : t.tok ≠ .last) :
    RS K L (upd H r.a (rdO K r (i + 1))) r (i + 1) ss ps es cs := h.move (Nat.le_add_right i 1) (h.more e ht)
theorem frm_m {r : Rd} {H : Hp} {x : Addr} {o : HO} (hx : x ∈ r.M) : Same (Off r.M H) (Off r.M (upd H x o)) := by
  rw [off_upd hx]
  exact Same.refl _
theorem RS.tok {L : List Addr} {H : Hp} {r : Rd} {i j : Nat} {ss : List BSet} {ps : List RawPart} {es : List Bytes} {cs : List PName} (h : RS K L H r i ss ps es cs) {t : PTok} {p : Addr} (e : r.toks[j]? = some t) (hp : r.tps[j]? = some p) :
    ∃ dx z, Off (L ++ r.M) H p = some (.ins (He.ga K "Token") dx (tokF (kindOf t.tok) z t.place)) ∧ TextOk t.tok z := by
  obtain ⟨p', z, h1, dx, h2, h3⟩ := h.toks.at_ e
  rw [hp] at h1
  cases h1
  exact ⟨dx, z, h2, h3⟩
theorem ok_Reader_read_say (T : Tx K mg) (D_Reader_take : Df P w K mg base (L2.CX P w) (3) (He.ma K (He.ga K "Reader") "take") P_Reader_take (sp_take K)) (D_Reader_read_amount : Df P w K mg base (L2.CX P w) (4) (He.ma K (He.ga K "Reader") "read_amount") P_Reader_read_amount (sp_read_amount K)) (D_Say_init : Df P w K mg base CX0 (1) (He.ma K (He.ga K "Say") "__init__") P_Say_init (spKeep1 (He.ga K "Say") "amount")) : Df P w K mg base (L2.CX P w) (5) (He.ma K (He.ga K "Reader") "read_say") P_Reader_read_say (spStmt K "say" fun _ l => oneSay l) := by
  refine dfx_mk (F_Reader_read_say T) sc_Reader_read_say (fun _ _ _ _ _ _ us hl => match us, hl with | [_], _ => rfl) (fun vs H Q E h => by obtain ⟨_, _, _, _, _, _, _, _, rfl, _⟩ := h; rfl) (fun cdv A outer s H vs Q E hr h => ⟨_, (pss_cons (ps_expr (pmx D_Reader_take (c_Reader T) (m_Reader_take T) (takes_of rfl rfl rfl rfl) hr (pv 0) (pa_cons pe_str pa_nil))) (pss_cons (ps_set (i := 1) sc_Reader_read_say.nd rfl (Or.inl rfl) (pmx0 D_Reader_read_amount (c_Reader T) (m_Reader_read_amount T) (takes_of rfl rfl rfl rfl) hr (pv 0))) (pss_cons (ps_expr (pmx D_Reader_take (c_Reader T) (m_Reader_take T) (takes_of rfl rfl rfl rfl) hr (pv 0) (pa_cons pe_str pa_nil))) (pss_one (ps_ret (pk D_Say_init (k_Say T) (g_Say T) hr (pa_cons (pv 1) pa_nil))))))), ?_⟩)
  obtain ⟨L, r, i, ss, ps, es, cs, t, rfl, h, ht, hk, qe, q⟩ := h
  dsimp only at qe q
  refine ⟨_, rfl, r.a, r.dx, _, rfl, h.obj, rfl, r, i, t, _, rfl, h.ra, ht, fun p dx z hp hP hz hk' => ?_, fun hk' => absurd hk hk'⟩
  have h1 := h.step ht (not_last hk)
  have f1 := frm_a r H (rdO K r (i + 1))
  generalize upd H r.a (rdO K r (i + 1)) = H1 at h1 f1 ⊢
  obtain ⟨t1, ht1⟩ := h1.tok_at
  have hR : oneSay (r.at_ i) = (Vakepa.takeNat Vakepa.SIZE (r.at_ (i + 1))).bind fun k => (takeSign 59 k.2).map fun r => (.say k.1 .done, r) := by
    unfold oneSay
    rw [drop_one ht]
  refine ⟨_, rfl, r.a, r.dx, _, rfl, h1.obj, rfl, r, i + 1, t1, rfl, h1.ra, ht1, fun f e => ?_, fun n e hn => ?_⟩
  · exact (qe f (by rw [hR, e] <;> rfl)).mono f1
  rw [e] at hR
  have h2 := h1.step ht1 hn
  have f2 := f1.trans (frm_a r H1 (rdO K r (i + 1 + 1)))
  generalize upd H1 r.a (rdO K r (i + 1 + 1)) = H2 at h2 f2 ⊢
  obtain ⟨t2, ht2⟩ := h2.tok_at
  refine ⟨_, rfl, r.a, r.dx, _, rfl, h2.obj, rfl, r, _, t2, _, rfl, h2.ra, ht2, fun p dx z hp hP hz hk2 => ?_, fun hk2 => ?_⟩
  · have h3 := h2.step ht2 (not_last hk2)
    have f3 := f2.trans (frm_a r H2 (rdO K r (i + 1 + 1 + 1)))
    generalize upd H2 r.a (rdO K r (i + 1 + 1 + 1)) = H3 at h3 f3 ⊢
    refine ⟨_, rfl, fun x dx hx hd ne => ⟨x, dx, _, rfl, upd_same, fun H' g1 g2 => ⟨rfl, ?_⟩⟩⟩
    have s4 := kept hx hd g2
    have hO : oneSay (r.at_ i) = .ok (.say n .done, r.at_ (i + 1 + 1 + 1)) := by
      rw [hR]
      show (takeSign 59 (r.at_ (i + 1 + 1))).map _ = _
      rw [show takeSign 59 (r.at_ (i + 1 + 1)) = _ from take_ok ht2 ((ks 59 _).mp hk2)] <;> rfl
    refine q _ _ hO _ _ _ (f3.trans (off_same s4)) ?_ rfl (by omega) ?_
    · rw [show callees (.say n .done) = [] from rfl, List.append_nil]
      exact h3.same s4
    · refine ⟨x, dx, [], rfl, off_some.mpr ⟨h3.off_a (fun o e => by rw [hx] at e; cases e), g1⟩, rfl⟩
  · refine ((qe ⟨3, t2.place⟩ ?_).mono f2).raise
    rw [hR]
    show (takeSign 59 (r.at_ (i + 1 + 1))).map _ = _
    rw [show takeSign 59 (r.at_ (i + 1 + 1)) = _ from take_no ht2 (mt (ks 59 _).mpr hk2)] <;> rfl
abbrev N_Reader_read_call : List Str := ["self", "name"]
abbrev P_Reader_read_call : List Str := ["self"]
theorem sc_Reader_read_call : FnScope N_Reader_read_call P_Reader_read_call (defScope s_Reader_read_call) := ⟨rfl, rfl, rfl, by decide +kernel, rfl, by decide +kernel, by decide +kernel⟩
theorem ok_Reader_read_call (T : Tx K mg) (D_Reader_take : Df P w K mg base (L2.CX P w) (3) (He.ma K (He.ga K "Reader") "take") P_Reader_take (sp_take K)) (D_Call_init : Df P w K mg base CX0 (1) (He.ma K (He.ga K "Call") "__init__") P_Call_init (spKeep1 (He.ga K "Call") "name")) : Df P w K mg base (L2.CX P w) (5) (He.ma K (He.ga K "Reader") "read_call") P_Reader_read_call (spStmt K "call" fun _ l => oneCall l) := by
  refine dfx_mk (F_Reader_read_call T) sc_Reader_read_call (fun _ _ _ _ _ _ us hl => match us, hl with | [_], _ => rfl) (fun vs H Q E h => by obtain ⟨_, _, _, _, _, _, _, _, rfl, _⟩ := h; rfl) (fun cdv A outer s H vs Q E hr h => ⟨_, (pss_cons (ps_expr (pmx D_Reader_take (c_Reader T) (m_Reader_take T) (takes_of rfl rfl rfl rfl) hr (pv 0) (pa_cons pe_str pa_nil))) (pss_cons (ps_set (i := 1) sc_Reader_read_call.nd rfl (Or.inl rfl) (pmx D_Reader_take (c_Reader T) (m_Reader_take T) (takes_of rfl rfl rfl rfl) hr (pv 0) (pa_cons (pg (t_NAME T)) pa_nil))) (pss_cons (ps_expr (pe_bm PySem.F.plainAttrs_list PySem.F.slot_list_append PySem.F.type_list_append mt_append (pe_fld (pv 0) rfl) (pa_cons (pv 1) pa_nil))) (pss_cons (ps_expr (pmx D_Reader_take (c_Reader T) (m_Reader_take T) (takes_of rfl rfl rfl rfl) hr (pv 0) (pa_cons pe_str pa_nil))) (pss_one (ps_ret (pk D_Call_init (k_Call T) (g_Call T) hr (pa_cons (pe_fld (pv 1) rfl) pa_nil)))))))), ?_⟩)
  obtain ⟨L, r, i, ss, ps, es, cs, t, rfl, h, ht, hk, qe, q⟩ := h
  dsimp only at qe q
  refine ⟨_, rfl, r.a, r.dx, _, rfl, h.obj, rfl, r, i, t, _, rfl, h.ra, ht, fun p dx z hp hP hz hk' => ?_, fun hk' => absurd hk hk'⟩
  have h1 := h.step ht (not_last hk)
  have f1 := frm_a r H (rdO K r (i + 1))
  generalize upd H r.a (rdO K r (i + 1)) = H1 at h1 f1 ⊢
  obtain ⟨t1, ht1⟩ := h1.tok_at
  have hR : oneCall (r.at_ i) = (takeName (r.at_ (i + 1))).bind fun p => (takeSign 59 p.2).map fun r => (.call p.1 .done, r) := by
    unfold oneCall
    rw [drop_one ht]
  refine ⟨_, rfl, r.a, r.dx, _, rfl, h1.obj, rfl, r, _, t1, _, rfl, h1.ra, ht1, fun p dx z hp hP hz hk1 => ?_, fun hk1 => ?_⟩
  case refine_2 =>
    refine ((qe ⟨3, t1.place⟩ ?_).mono f1).raise
    rw [hR, name_no ht1 hk1] <;> rfl
  obtain ⟨b, hb, hbr⟩ := (kind_name _).mp hk1
  rw [name_ok ht1 hb hbr] at hR
  have h2 := h1.step ht1 (not_last hk1)
  have f2 := f1.trans (frm_a r H1 (rdO K r (i + 1 + 1)))
  generalize upd H1 r.a (rdO K r (i + 1 + 1)) = H2 at h2 f2 ⊢
  obtain ⟨as, hlC, hcs⟩ := h2.calls
  obtain ⟨dx2, z2, hP2, hz2⟩ := h2.tok ht1 hp
  rw [hb] at hP2 hz2
  have hz2' : z2 = tx b := hz2
  subst hz2'
  have hlen := h2.ncs
  have hsm := h2.small
  have hhi := h2.hi
  have has : as.length = cs.length := hcs.len
  refine ⟨_, rfl, r.a, _, r.dx, _, _, rfl, h2.obj, c_Reader T, n_Reader_callees T, rfl, .inl ⟨rfl, _, SqL.of hlC⟩, _, rfl, r.lC, _, _, rfl, rfl, hlC, ?_, ?_⟩
  · rw [List.length_map, has]
    exact Nat.lt_of_le_of_lt (by omega : _ ≤ 5000) (by decide)
  have hlt : cs.length < i + 1 + 1 := by
    have := h.ncs
    omega
  have h3 := h2.addCall (c := ⟨t1.place, b⟩) hlC ⟨hbr, _, dx2, hP2, rfl⟩ hlt
  have f3 := f2.trans (frm_m (r := r) (H := H2) (o := .lst (as.map V.ref ++ [.ref p])) (show r.lC ∈ r.M by simp [Rd.M]))
  generalize upd H2 r.lC (.lst (as.map V.ref ++ [.ref p])) = H3 at h3 f3 ⊢
  obtain ⟨t2, ht2⟩ := h3.tok_at
  refine ⟨_, rfl, r.a, r.dx, _, rfl, h3.obj, rfl, r, _, t2, _, rfl, h3.ra, ht2, fun _ _ _ _ _ _ hk2 => ?_, fun hk2 => ?_⟩
  case refine_2 =>
    refine ((qe ⟨3, t2.place⟩ ?_).mono f3).raise
    rw [hR]
    show (takeSign 59 (r.at_ (i + 1 + 1))).map _ = _
    rw [show takeSign 59 (r.at_ (i + 1 + 1)) = _ from take_no ht2 (mt (ks 59 _).mpr hk2)] <;> rfl
  have h4 := h3.step ht2 (not_last hk2)
  have f4 := f3.trans (frm_a r H3 (rdO K r (i + 1 + 1 + 1)))
  generalize upd H3 r.a (rdO K r (i + 1 + 1 + 1)) = H4 at h4 f4 ⊢
  obtain ⟨dx4, z4, hP4, hz4⟩ := h4.tok ht1 hp
  rw [hb] at hP4 hz4
  have hz4' : z4 = tx b := hz4
  subst hz4'
  refine ⟨_, rfl, p, _, dx4, _, _, rfl, off_le _ _ hP4, c_Token T, n_Token_text T, rfl, fun x dx hx hd ne => ⟨x, dx, _, rfl, upd_same, fun H' g1 g2 => ⟨rfl, ?_⟩⟩⟩
  have s4 := kept hx hd g2
  have hO : oneCall (r.at_ i) = .ok (.call ⟨t1.place, b⟩ .done, r.at_ (i + 1 + 1 + 1)) := by
    rw [hR]
    show (takeSign 59 (r.at_ (i + 1 + 1))).map _ = _
    rw [show takeSign 59 (r.at_ (i + 1 + 1)) = _ from take_ok ht2 ((ks 59 _).mp hk2)] <;> rfl
  exact q _ _ hO _ _ _ (f4.trans (off_same s4)) (h4.same s4) rfl (by omega) ⟨x, dx, [], rfl, off_some.mpr ⟨h4.off_a (fun o e => by rw [hx] at e; cases e), g1⟩, rfl⟩
end
end Vf

set_option Elab.async false
set_option linter.all false
set_option maxRecDepth 100000
set_option maxHeartbeats 4000000
/-! Makes. -/
namespace Vf
open PySem PySem.Spec PyProof.Rows L2
open VakepBase (Bytes PTok Toks RESERVED tokEq PName word taken takeName takeSign takeWord)
open Vakepa (Piece Raw RawPart pieceOf)
section
variable {P : Program} {w : World} {K : PySem.W.Frag} {mg : Str → Option Value} {base : Heap}
theorem find_get {α : Type} {l : List α} {p : α → Bool} {k : Nat} (h : l.findIdx? p = some k) : ∃ x, l[k]? = some x ∧ p x = true := by
  obtain ⟨h1, h2, _⟩ := List.findIdx?_eq_some_iff_getElem.mp h
  exact ⟨l[k], List.getElem?_eq_getElem h1, h2⟩
theorem piece_text (ss : List BSet) (b : Bytes) : pieceT ss (pieceOf ss b) = b := by
  unfold pieceOf
  cases h : ss.findIdx? fun s => s.name == b with
  | none => rfl
  | some k =>
    obtain ⟨x, h1, h2⟩ := find_get h
    show ((ss[k]?).map fun s => s.name).getD [] = b
    rw [h1]
    exact eq_of_beq h2
theorem frm_c {M : List Addr} {H H' : Hp} {l : Addr} (h : Same (Off M H) (Off M H')) : Same (Off (l :: M) H) (Off (l :: M) H') := off_cons h
theorem frm_l {M : List Addr} {H : Hp} {l : Addr} {o : HO} : Same (Off (l :: M) H) (Off (l :: M) (upd H l o)) := by
  have e : l ∈ l :: M := List.mem_cons_self ..
  rw [off_upd e]
  exact Same.refl _
theorem RS.l_ne {L : List Addr} {H : Hp} {r : Rd} {i : Nat} {ss : List BSet} {ps : List RawPart} {es : List Bytes} {cs : List PName} {l : Addr} (h : RS K (l :: L) H r i ss ps es cs) : l ∉ r.M := fun z =>
  (List.nodup_cons.mp h.nd).1 (List.mem_append_right _ z)
def pv_ (ss : List BSet) (qs : List Piece) : List V := qs.map fun q => sv (pieceT ss q)
abbrev N_Reader_read_piece : List Str := ["self", "pieces", "piece"]
abbrev P_Reader_read_piece : List Str := ["self", "pieces"]
theorem sc_Reader_read_piece : FnScope N_Reader_read_piece P_Reader_read_piece (defScope s_Reader_read_piece) := ⟨rfl, rfl, rfl, by decide +kernel, rfl, by decide +kernel, by decide +kernel⟩
def sp_read_piece (K : PySem.W.Frag) : Sp := fun vs H Q E => ∃ (L : List Addr) (l : Addr) (r : Rd) (i : Nat) (ss : List BSet) (ps : List RawPart) (es : List Bytes) (cs : List PName) (qs : List Piece),
  vs = [.ref r.a, .ref l] ∧ RS K (l :: L) H r i ss ps es cs ∧ H l = some (.lst (pv_ ss qs)) ∧ qs.length ≤ 3 ∧ (∀ f, P1 ss qs (r.at_ i) = .error f → Err K (l :: r.M) H E f) ∧
  (∀ qs' l', P1 ss qs (r.at_ i) = .ok (qs', l') → ∀ H', Same (Off (l :: r.M) H) (Off (l :: r.M) H') → RS K (l :: L) H' r (i + 1) ss ps es cs → l' = r.at_ (i + 1) → H' l = some (.lst (pv_ ss qs')) → qs'.length ≤ 3 → Q .non H')
theorem ok_Reader_read_piece (T : Tx K mg) (D_Reader_take : Df P w K mg base (L2.CX P w) (3) (He.ma K (He.ga K "Reader") "take") P_Reader_take (sp_take K)) (D_check_room : Df P w K mg base (L2.CX P w) (3) (He.ga K "check_room") P_check_room (sp_check_room K)) : Df P w K mg base (L2.CX P w) (4) (He.ma K (He.ga K "Reader") "read_piece") P_Reader_read_piece (sp_read_piece K) := by
  refine dfx_mk (F_Reader_read_piece T) sc_Reader_read_piece (fun _ _ _ _ _ _ us hl => match us, hl with | [_, _], _ => rfl) (fun vs H Q E h => by obtain ⟨_, _, _, _, _, _, _, _, _, rfl, _⟩ := h; rfl) (fun cdv A outer s H vs Q E hr h => ⟨_, (pss_cons (ps_set (i := 2) sc_Reader_read_piece.nd rfl (Or.inl rfl) (pmx D_Reader_take (c_Reader T) (m_Reader_take T) (takes_of rfl rfl rfl rfl) hr (pv 0) (pa_cons (pg (t_NAME T)) pa_nil))) (pss_cons (ps_expr (pfx D_check_room (g_check_room T) (takes_of rfl rfl rfl rfl) hr (pa_cons (pv 2) (pa_cons (pv 1) (pa_cons (pg (i_MOST_PIECES T)) pa_nil))))) (pss_one (ps_expr (pe_bm PySem.F.plainAttrs_list PySem.F.slot_list_append PySem.F.type_list_append mt_append (pv 1) (pa_cons (pe_fld (pv 2) rfl) pa_nil)))))), ?_⟩)
  obtain ⟨L, l, r, i, ss, ps, es, cs, qs, rfl, h, hl, hq3, qe, q⟩ := h
  obtain ⟨t, ht⟩ := h.tok_at
  refine ⟨_, rfl, r.a, r.dx, _, rfl, h.obj, rfl, r, i, t, _, rfl, h.ra, ht, fun p dx z hp hP hz hk => ?_, fun hk => ?_⟩
  case refine_2 =>
    refine (qe ⟨3, t.place⟩ ?_).raise
    unfold P1
    rw [name_no ht hk] <;> rfl
  obtain ⟨b, hb, hbr⟩ := (kind_name _).mp hk
  have hR : P1 ss qs (r.at_ i) = if 3 ≤ qs.length then .error ⟨4, t.place⟩ else .ok (qs ++ [pieceOf ss b], r.at_ (i + 1)) := by
    unfold P1
    rw [name_ok ht hb hbr] <;> rfl
  have h1 := h.step ht (not_last hk)
  have f1 := frm_c (l := l) (frm_a r H (rdO K r (i + 1)))
  have hl1 : upd H r.a (rdO K r (i + 1)) l = some (.lst (pv_ ss qs)) := by
    rw [upd_ne (fun z => h.l_ne (by rw [z]; exact List.mem_cons_self ..))]
    exact hl
  generalize upd H r.a (rdO K r (i + 1)) = H1 at h1 f1 hl1 ⊢
  obtain ⟨dx1, z1, hP1, hz1⟩ := h1.tok ht hp
  rw [hb] at hP1 hz1
  have hz1' : z1 = tx b := hz1
  subst hz1'
  have hln : (pv_ ss qs).length = qs.length := List.length_map _
  refine ⟨_, rfl, _, rfl, p, dx1, l, _, _, _, qs.length, _, rfl, off_le _ _ hP1, .inl ⟨_, hln, hl1⟩, fun hn => ?_, fun hn => ?_⟩
  · have hn' : qs.length ≠ 3 := fun z => hn (by rw [z] <;> rfl)
    rw [if_neg (by omega)] at hR
    refine ⟨_, rfl, .inl ⟨rfl, _, SqL.of hl1⟩, _, rfl, p, _, dx1, _, _, rfl, off_le _ _ hP1, c_Token T, n_Token_text T, rfl, l, _, _, rfl, rfl, hl1, ?_, ?_⟩
    · rw [hln]
      exact Nat.lt_of_le_of_lt hq3 (by decide)
    · refine q _ _ hR _ (f1.trans frm_l) (h1.set _) rfl ?_ (by rw [List.length_append]; show qs.length + 1 ≤ 3; omega)
      rw [upd_same]
      unfold pv_
      rw [List.map_append]
      show _ = some (HO.lst (_ ++ [sv (pieceT ss (pieceOf ss b))]))
      rw [piece_text] <;> rfl
  · have hn' : qs.length = 3 := by
      have : (qs.length : Int) = 3 := hn
      omega
    rw [if_pos (by omega)] at hR
    exact ((qe _ hR).mono f1).raise
abbrev N_Reader_read_make : List Str := ["self", "pieces"]
abbrev P_Reader_read_make : List Str := ["self"]
theorem sc_Reader_read_make : FnScope N_Reader_read_make P_Reader_read_make (defScope s_Reader_read_make) := ⟨rfl, rfl, rfl, by decide +kernel, rfl, by decide +kernel, by decide +kernel⟩
theorem ok_Reader_read_make (T : Tx K mg) (D_Reader_take : Df P w K mg base (L2.CX P w) (3) (He.ma K (He.ga K "Reader") "take") P_Reader_take (sp_take K)) (D_Reader_take_if : Df P w K mg base CX0 (2) (He.ma K (He.ga K "Reader") "take_if") P_Reader_take_if (sp_take_if K)) (D_Reader_read_piece : Df P w K mg base (L2.CX P w) (4) (He.ma K (He.ga K "Reader") "read_piece") P_Reader_read_piece (sp_read_piece K)) (D_Make_init : Df P w K mg base CX0 (1) (He.ma K (He.ga K "Make") "__init__") P_Make_init (spKeep1 (He.ga K "Make") "pieces")) : Df P w K mg base (L2.CX P w) (5) (He.ma K (He.ga K "Reader") "read_make") P_Reader_read_make (spStmt K "make" oneMake) := by
  refine dfx_mk (F_Reader_read_make T) sc_Reader_read_make (fun _ _ _ _ _ _ us hl => match us, hl with | [_], _ => rfl) (fun vs H Q E h => by obtain ⟨_, _, _, _, _, _, _, _, rfl, _⟩ := h; rfl) (fun cdv A outer s H vs Q E hr h => ⟨_, (pss_cons (ps_expr (pmx D_Reader_take (c_Reader T) (m_Reader_take T) (takes_of rfl rfl rfl rfl) hr (pv 0) (pa_cons pe_str pa_nil))) (pss_cons (ps_set (i := 1) sc_Reader_read_make.nd rfl (Or.inl rfl) (pe_lst pa_nil)) (pss_cons (ps_expr (pmx D_Reader_read_piece (c_Reader T) (m_Reader_read_piece T) (takes_of rfl rfl rfl rfl) hr (pv 0) (pa_cons (pv 1) pa_nil))) (pss_cons (ps_while (passes_of rfl) (pt_val (pm D_Reader_take_if (c_Reader T) (m_Reader_take_if T)  hr (pv 0) (pa_cons pe_str pa_nil))) (pss_one (ps_expr (pmx D_Reader_read_piece (c_Reader T) (m_Reader_read_piece T) (takes_of rfl rfl rfl rfl) hr (pv 0) (pa_cons (pv 1) pa_nil))))) (pss_cons (ps_expr (pmx D_Reader_take (c_Reader T) (m_Reader_take T) (takes_of rfl rfl rfl rfl) hr (pv 0) (pa_cons pe_str pa_nil))) (pss_one (ps_ret (pk D_Make_init (k_Make T) (g_Make T) hr (pa_cons (pv 1) pa_nil))))))))), ?_⟩)
  obtain ⟨L, r, i, ss, ps, es, cs, t, rfl, h, ht, hk, qe, q⟩ := h
  refine ⟨_, rfl, r.a, r.dx, _, rfl, h.obj, rfl, r, i, t, _, rfl, h.ra, ht, fun p dx z hp hP hz hk' => ?_, fun hk' => absurd hk hk'⟩
  have h1 := h.step ht (not_last hk)
  have f1 := frm_a r H (rdO K r (i + 1))
  generalize upd H r.a (rdO K r (i + 1)) = H1 at h1 f1 ⊢
  refine ⟨(by decide), fun l hl => ?_⟩
  have h2 := h1.open_ hl (.lst [])
  have f2 : Same (Off r.M H) (Off r.M (upd H1 l (.lst []))) := f1.trans (off_new hl)
  have hl2 : upd H1 l (.lst []) l = some (.lst (pv_ ss [])) := upd_same
  generalize upd H1 l (.lst []) = H2 at h2 f2 hl2 ⊢
  have hR : oneMake ss (r.at_ i) = ((P1 ss [] (r.at_ (i + 1))).bind (pTail ss (r.at_ i).length)).map fun p => (.make p.1 .done, p.2) := by
    unfold oneMake
    rw [drop_one ht, pieces_one]
  have hl0 : Off r.M H l = none := by
    cases e : Off r.M H l with
    | none => rfl
    | some o => rw [off_le _ _ (f1 _ _ e)] at hl; cases hl
  -- back from a frame with the hole l
  have back : ∀ {H'}, Same (Off (l :: r.M) H2) (Off (l :: r.M) H') → Same (Off r.M H) (Off r.M H') := fun {H'} g b o e => by
    have ne : b ≠ l := fun z => by rw [z, hl0] at e; cases e
    obtain ⟨e1, e2⟩ := off_some.mp (f2 b o e)
    obtain ⟨e3, e4⟩ := off_some.mp (g b o (off_some.mpr ⟨fun z => (List.mem_cons.mp z).elim ne e1, e2⟩))
    exact off_some.mpr ⟨e1, e4⟩
  have errs : ∀ {H' f}, Same (Off (l :: r.M) H2) (Off (l :: r.M) H') → oneMake ss (r.at_ i) = .error f → Err K (l :: r.M) H' E f := fun {H' f} g e d H'' g' k => qe f e d H'' (back (g.trans g')) k
  refine ⟨_, rfl, r.a, r.dx, _, rfl, h2.obj, rfl, _, rfl, L, l, r, i + 1, ss, ps, es, cs, [], rfl, h2, hl2, by decide, fun f e => ?_, fun qs l' e H3 f3 h3 el hl3 hq3 => ?_⟩
  · exact errs (Same.refl _) (by rw [hR, e] <;> rfl)
  rw [e, el] at hR
  have hlen : (r.at_ (i + 1 + 1)).length < (r.at_ i).length := by
    have := h.hi
    rw [List.length_drop, List.length_drop]
    omega
  refine ⟨fun m σ H' => ∃ i' qs n, m = r.toks.length - i' ∧ σ = [some (.ref r.a), some (.ref l)] ∧ RS K (l :: L) H' r i' ss ps es cs ∧ Same (Off (l :: r.M) H2) (Off (l :: r.M) H') ∧ H' l = some (.lst (pv_ ss qs)) ∧ qs.length ≤ 3 ∧ i < i' ∧ (r.at_ i').length < n ∧
      oneMake ss (r.at_ i) = (pTail ss n (qs, r.at_ i')).map fun p => (.make p.1 .done, p.2), ⟨_, i + 1 + 1, qs, _, rfl, rfl, h3, f3, hl3, hq3, by omega, hlen, hR⟩, ?_⟩
  clear hlen hR e el l' hl3 hq3 h3 f3
  rintro m σ H4 ⟨i', qs, n, rfl, rfl, h4, f4, hl4, hq4, hi4, hn4, hR⟩
  obtain ⟨t4, ht4⟩ := h4.tok_at
  have hRt : pTail ss n (qs, r.at_ i') = if tokEq t4.tok (.sign 43) = true then Vakepa.takePieces ss n qs (r.at_ (i' + 1)) else (takeSign 59 (r.at_ i')).map fun m => (qs, m) := by
    show (if VakepBase.next (.sign 43) (r.at_ i') = true then Vakepa.takePieces ss n qs ((r.at_ i').drop 1) else _) = _
    rw [next_is ht4, drop_one ht4]
  refine ⟨_, rfl, r.a, r.dx, _, rfl, h4.obj, rfl, r, i', t4, _, rfl, h4.ra, ht4, fun hk4 => ?_, fun hk4 => ?_⟩
  · have h5 := h4.step ht4 (not_last hk4)
    have f5 := f4.trans (frm_c (l := l) (frm_a r H4 (rdO K r (i' + 1))))
    have hl5 : upd H4 r.a (rdO K r (i' + 1)) l = some (.lst (pv_ ss qs)) := by
      rw [upd_ne (fun z => h4.l_ne (by rw [z]; exact List.mem_cons_self ..))]
      exact hl4
    generalize upd H4 r.a (rdO K r (i' + 1)) = H5 at h5 f5 hl5 ⊢
    rw [if_pos ((ks 43 _).mp hk4)] at hRt
    obtain ⟨n', rfl⟩ : ∃ n', n = n' + 1 := ⟨n - 1, by omega⟩
    rw [hRt, pieces_one] at hR
    refine ⟨_, rfl, ?_⟩
    refine ⟨fun σ' H' => ∃ i'' qs, i' < i'' ∧ σ' = [some (.ref r.a), some (.ref l)] ∧ RS K (l :: L) H' r i'' ss ps es cs ∧ Same (Off (l :: r.M) H2) (Off (l :: r.M) H') ∧ H' l = some (.lst (pv_ ss qs)) ∧ qs.length ≤ 3 ∧ (r.at_ i'').length < n' ∧
      oneMake ss (r.at_ i) = (pTail ss n' (qs, r.at_ i'')).map fun p => (.make p.1 .done, p.2), ?_, ?_⟩
    · rintro σ' H' ⟨i'', qs, k1, k2, k3, k4, k5, k6, k7, k8⟩
      exact ⟨_, by have := h4.hi; omega, i'', qs, n', rfl, k2, k3, k4, k5, k6, by omega, k7, k8⟩
    refine ⟨_, rfl, r.a, r.dx, _, rfl, h5.obj, rfl, _, rfl, L, l, r, i' + 1, ss, ps, es, cs, qs, rfl, h5, hl5, hq4, fun f e => ?_, fun qs6 l' e H6 f6 h6 el hl6 hq6 => ?_⟩
    · exact errs f5 (by rw [hR, e] <;> rfl)
    · rw [e, el] at hR
      refine ⟨i' + 1 + 1, qs6, by omega, rfl, h6, f5.trans f6, hl6, hq6, ?_, hR⟩
      have := h5.hi
      have := h6.hi
      rw [List.length_drop] at hn4 ⊢
      omega
  · rw [if_neg (mt (ks 43 _).mpr hk4)] at hRt
    rw [hRt] at hR
    refine ⟨_, rfl, ?_⟩
    refine ⟨_, rfl, r.a, r.dx, _, rfl, h4.obj, rfl, r, i', t4, _, rfl, h4.ra, ht4, fun _ _ _ _ _ _ hk5 => ?_, fun hk5 => ?_⟩
    case refine_2 =>
      refine (errs (f := ⟨3, t4.place⟩) f4 ?_).raise
      rw [hR, show takeSign 59 (r.at_ i') = _ from take_no ht4 (mt (ks 59 _).mpr hk5)] <;> rfl
    have h5 := h4.step ht4 (not_last hk5)
    have f5 := f4.trans (frm_c (l := l) (frm_a r H4 (rdO K r (i' + 1))))
    have hl5 : upd H4 r.a (rdO K r (i' + 1)) l = some (.lst (pv_ ss qs)) := by
      rw [upd_ne (fun z => h4.l_ne (by rw [z]; exact List.mem_cons_self ..))]
      exact hl4
    generalize upd H4 r.a (rdO K r (i' + 1)) = H5 at h5 f5 hl5 ⊢
    refine ⟨_, rfl, fun x dx hx hd ne => ⟨x, dx, _, rfl, upd_same, fun H' g1 g2 => ⟨rfl, ?_⟩⟩⟩
    have s6 := kept hx hd g2
    have hO : oneMake ss (r.at_ i) = .ok (.make qs .done, r.at_ (i' + 1)) := by
      rw [hR, show takeSign 59 (r.at_ i') = _ from take_ok ht4 ((ks 59 _).mp hk5)] <;> rfl
    have hc5 := h5.close
    refine q _ _ hO _ _ _ (back (f5.trans (off_same s6))) ?_ rfl (by omega) ⟨x, dx, l, [], rfl, ?_, ?_, rfl⟩
    · rw [show callees (.make qs .done) = [] from rfl, List.append_nil]
      exact hc5.same s6
    · exact off_some.mpr ⟨hc5.off_a (fun o e => by rw [hx] at e; cases e), g1⟩
    · exact off_some.mpr ⟨(List.nodup_cons.mp h5.nd).1, s6 _ _ hl5⟩
end
end Vf

set_option Elab.async false
set_option linter.all false
set_option maxRecDepth 100000
set_option maxHeartbeats 4000000
/-! Settings. -/
namespace Vf
open PySem PySem.Spec PyProof.Rows L2
open VakepBase (Bytes PTok Toks RESERVED tokEq PName word taken takeName takeSign takeWord)
open Vakepa (Piece Raw RawPart)
section
variable {P : Program} {w : World} {K : PySem.W.Frag} {mg : Str → Option Value} {base : Heap}
abbrev N_Reader_read_word : List Str := ["self", "words", "word"]
abbrev P_Reader_read_word : List Str := ["self", "words"]
theorem sc_Reader_read_word : FnScope N_Reader_read_word P_Reader_read_word (defScope s_Reader_read_word) := ⟨rfl, rfl, rfl, by decide +kernel, rfl, by decide +kernel, by decide +kernel⟩
def sp_read_word (K : PySem.W.Frag) : Sp := fun vs H Q E => ∃ (L : List Addr) (l : Addr) (r : Rd) (i : Nat) (ss : List BSet) (ps : List RawPart) (es : List Bytes) (cs : List PName) (qs : List Bytes),
  vs = [.ref r.a, .ref l] ∧ RS K (l :: L) H r i ss ps es cs ∧ H l = some (.lst (qs.map sv)) ∧ qs.length ≤ 4 ∧ (∀ f, W1 qs (r.at_ i) = .error f → Err K (l :: r.M) H E f) ∧
  (∀ qs' l', W1 qs (r.at_ i) = .ok (qs', l') → ∀ H', Same (Off (l :: r.M) H) (Off (l :: r.M) H') → RS K (l :: L) H' r (i + 1) ss ps es cs → l' = r.at_ (i + 1) → H' l = some (.lst (qs'.map sv)) → qs'.length ≤ 4 → Q .non H')
theorem ok_Reader_read_word (T : Tx K mg) (D_Reader_take : Df P w K mg base (L2.CX P w) (3) (He.ma K (He.ga K "Reader") "take") P_Reader_take (sp_take K)) (D_check_room : Df P w K mg base (L2.CX P w) (3) (He.ga K "check_room") P_check_room (sp_check_room K)) (D_Fault_init : Df P w K mg base CX0 (1) (He.ma K (He.ga K "Fault") "__init__") P_Fault_init (spFault (He.ga K "Fault"))) : Df P w K mg base (L2.CX P w) (4) (He.ma K (He.ga K "Reader") "read_word") P_Reader_read_word (sp_read_word K) := by
  refine dfx_mk (F_Reader_read_word T) sc_Reader_read_word (fun _ _ _ _ _ _ us hl => match us, hl with | [_, _], _ => rfl) (fun vs H Q E h => by obtain ⟨_, _, _, _, _, _, _, _, _, rfl, _⟩ := h; rfl) (fun cdv A outer s H vs Q E hr h => ⟨_, (pss_cons (ps_set (i := 2) sc_Reader_read_word.nd rfl (Or.inl rfl) (pmx D_Reader_take (c_Reader T) (m_Reader_take T) (takes_of rfl rfl rfl rfl) hr (pv 0) (pa_cons (pg (t_NAME T)) pa_nil))) (pss_cons (ps_expr (pfx D_check_room (g_check_room T) (takes_of rfl rfl rfl rfl) hr (pa_cons (pv 2) (pa_cons (pv 1) (pa_cons (pg (i_MOST_WORDS T)) pa_nil))))) (pss_cons (ps_if (pt_cmpR op_in_seq (pe_fld (pv 2) rfl) (pv 1) (by rfl)) (pss_one (ps_raise rfl (takes_of rfl rfl rfl rfl) (pfault D_Fault_init (ecl_of (e_2 T)) (of_decide_eq_true (e_6 T)) (of_decide_eq_true (e_7 T)) (g_Fault T) hr (pa_cons (pg (i_TOLD_BEFORE T)) (pa_cons (pe_fld (pv 2) rfl) pa_nil))))) pss_nil) (pss_one (ps_expr (pe_bm PySem.F.plainAttrs_list PySem.F.slot_list_append PySem.F.type_list_append mt_append (pv 1) (pa_cons (pe_fld (pv 2) rfl) pa_nil))))))), ?_⟩)
  obtain ⟨L, l, r, i, ss, ps, es, cs, qs, rfl, h, hl, hq3, qe, q⟩ := h
  obtain ⟨t, ht⟩ := h.tok_at
  refine ⟨_, rfl, r.a, r.dx, _, rfl, h.obj, rfl, r, i, t, _, rfl, h.ra, ht, fun p dx z hp hP hz hk => ?_, fun hk => ?_⟩
  case refine_2 =>
    refine (qe ⟨3, t.place⟩ ?_).raise
    unfold W1
    rw [name_no ht hk] <;> rfl
  obtain ⟨b, hb, hbr⟩ := (kind_name _).mp hk
  have hR : W1 qs (r.at_ i) = if 4 ≤ qs.length then .error ⟨4, t.place⟩ else if qs.contains b = true then .error ⟨5, t.place⟩ else .ok (qs ++ [b], r.at_ (i + 1)) := by
    unfold W1
    rw [name_ok ht hb hbr] <;> rfl
  have h1 := h.step ht (not_last hk)
  have f1 := frm_c (l := l) (frm_a r H (rdO K r (i + 1)))
  have hl1 : upd H r.a (rdO K r (i + 1)) l = some (.lst (qs.map sv)) := by
    rw [upd_ne (fun z => h.l_ne (by rw [z]; exact List.mem_cons_self ..))]
    exact hl
  generalize upd H r.a (rdO K r (i + 1)) = H1 at h1 f1 hl1 ⊢
  obtain ⟨dx1, z1, hP1, hz1⟩ := h1.tok ht hp
  rw [hb] at hP1 hz1
  have hz1' : z1 = tx b := hz1
  subst hz1'
  have hP1' := off_le _ _ hP1
  have hln : (qs.map sv).length = qs.length := List.length_map _
  refine ⟨_, rfl, _, rfl, p, dx1, l, _, _, _, qs.length, _, rfl, hP1', .inl ⟨_, hln, hl1⟩, fun hn => ?_, fun hn => ?_⟩
  · have hn' : qs.length ≠ 4 := fun z => hn (by rw [z] <;> rfl)
    rw [if_neg (by omega)] at hR
    refine ⟨_, rfl, p, _, dx1, _, _, rfl, hP1', c_Token T, n_Token_text T, rfl, _, rfl, l, _, rfl, .inl (SqL.of hl1), rfl, flat_names qs, _, rfl, ?_⟩
    refine iteB (fun hc => ?_) (fun hc => ?_)
    · have hc' : (qs.any fun x => x == b) = true := by
        rw [← names_in]
        exact hc
      rw [any_contains, if_pos hc'] at hR
      refine ⟨_, rfl, p, _, dx1, _, _, rfl, hP1', c_Token T, n_Token_place T, rfl, born ?_⟩
      exact ((qe _ hR).mono f1).raise
    · have hc' : (qs.any fun x => x == b) = false := by
        rw [← names_in]
        exact hc
      rw [any_contains, if_neg (by rw [hc']; decide)] at hR
      refine ⟨_, rfl, .inl ⟨rfl, _, SqL.of hl1⟩, _, rfl, p, _, dx1, _, _, rfl, hP1', c_Token T, n_Token_text T, rfl, l, _, _, rfl, rfl, hl1, ?_, ?_⟩
      · rw [hln]
        exact Nat.lt_of_le_of_lt hq3 (by decide)
      · refine q _ _ hR _ (f1.trans frm_l) (h1.set _) rfl ?_ (by rw [List.length_append]; show qs.length + 1 ≤ 4; omega)
        rw [upd_same, List.map_append] <;> rfl
  · have hn' : qs.length = 4 := by
      have : (qs.length : Int) = 4 := hn
      omega
    rw [if_pos (by omega)] at hR
    exact ((qe _ hR).mono f1).raise
abbrev N_Reader_read_setting : List Str := ["self", "opening", "name", "words"]
abbrev P_Reader_read_setting : List Str := ["self"]
theorem sc_Reader_read_setting : FnScope N_Reader_read_setting P_Reader_read_setting (defScope s_Reader_read_setting) := ⟨rfl, rfl, rfl, by decide +kernel, rfl, by decide +kernel, by decide +kernel⟩
def sp_read_setting (K : PySem.W.Frag) : Sp := fun vs H Q E => ∃ (L : List Addr) (r : Rd) (i : Nat) (ss : List BSet) (es : List Bytes) (cs : List PName) (t : PTok),
  vs = [.ref r.a] ∧ RS K L H r i ss [] es cs ∧ r.toks[i]? = some t ∧ kindOf t.tok = "set" ∧ ss.length ≤ 3 ∧ (∀ f, S1 ss (r.at_ i) = .error f → Err K r.M H E f) ∧
  (∀ ss' l', S1 ss (r.at_ i) = .ok (ss', l') → ∀ H' i', Same (Off r.M H) (Off r.M H') → RS K L H' r i' ss' [] es cs → l' = r.at_ i' → i < i' → ss'.length ≤ 3 → Q .non H')
theorem ok_Reader_read_setting (T : Tx K mg) (D_Reader_take : Df P w K mg base (L2.CX P w) (3) (He.ma K (He.ga K "Reader") "take") P_Reader_take (sp_take K)) (D_Reader_take_if : Df P w K mg base CX0 (2) (He.ma K (He.ga K "Reader") "take_if") P_Reader_take_if (sp_take_if K)) (D_Reader_read_word : Df P w K mg base (L2.CX P w) (4) (He.ma K (He.ga K "Reader") "read_word") P_Reader_read_word (sp_read_word K)) (D_check_room : Df P w K mg base (L2.CX P w) (3) (He.ga K "check_room") P_check_room (sp_check_room K)) (D_Fault_init : Df P w K mg base CX0 (1) (He.ma K (He.ga K "Fault") "__init__") P_Fault_init (spFault (He.ga K "Fault"))) (D_Setting_init : Df P w K mg base CX0 (1) (He.ma K (He.ga K "Setting") "__init__") P_Setting_init (spKeep2 (He.ga K "Setting") "name" "words")) : Df P w K mg base (L2.CX P w) (5) (He.ma K (He.ga K "Reader") "read_setting") P_Reader_read_setting (sp_read_setting K) := by
  refine dfx_mk (F_Reader_read_setting T) sc_Reader_read_setting (fun _ _ _ _ _ _ us hl => match us, hl with | [_], _ => rfl) (fun vs H Q E h => by obtain ⟨_, _, _, _, _, _, _, rfl, _⟩ := h; rfl) (fun cdv A outer s H vs Q E hr h => ⟨_, (pss_cons (ps_set (i := 1) sc_Reader_read_setting.nd rfl (Or.inl rfl) (pmx D_Reader_take (c_Reader T) (m_Reader_take T) (takes_of rfl rfl rfl rfl) hr (pv 0) (pa_cons pe_str pa_nil))) (pss_cons (ps_expr (pfx D_check_room (g_check_room T) (takes_of rfl rfl rfl rfl) hr (pa_cons (pv 1) (pa_cons (pe_fld (pv 0) rfl) (pa_cons (pg (i_MOST_SETTINGS T)) pa_nil))))) (pss_cons (ps_set (i := 2) sc_Reader_read_setting.nd rfl (Or.inl rfl) (pmx D_Reader_take (c_Reader T) (m_Reader_take T) (takes_of rfl rfl rfl rfl) hr (pv 0) (pa_cons (pg (t_NAME T)) pa_nil))) (pss_cons (ps_if (pt_cmp (pc_din (hu_of hr) (pe_fld (pv 2) rfl) (pe_fld (pv 0) rfl))) (pss_one (ps_raise rfl (takes_of rfl rfl rfl rfl) (pfault D_Fault_init (ecl_of (e_2 T)) (of_decide_eq_true (e_6 T)) (of_decide_eq_true (e_7 T)) (g_Fault T) hr (pa_cons (pg (i_TOLD_BEFORE T)) (pa_cons (pe_fld (pv 2) rfl) pa_nil))))) pss_nil) (pss_cons (ps_expr (pmx D_Reader_take (c_Reader T) (m_Reader_take T) (takes_of rfl rfl rfl rfl) hr (pv 0) (pa_cons pe_str pa_nil))) (pss_cons (ps_set (i := 3) sc_Reader_read_setting.nd rfl (Or.inl rfl) (pe_lst pa_nil)) (pss_cons (ps_expr (pmx D_Reader_read_word (c_Reader T) (m_Reader_read_word T) (takes_of rfl rfl rfl rfl) hr (pv 0) (pa_cons (pv 3) pa_nil))) (pss_cons (ps_while (passes_of rfl) (pt_val (pm D_Reader_take_if (c_Reader T) (m_Reader_take_if T)  hr (pv 0) (pa_cons pe_str pa_nil))) (pss_one (ps_expr (pmx D_Reader_read_word (c_Reader T) (m_Reader_read_word T) (takes_of rfl rfl rfl rfl) hr (pv 0) (pa_cons (pv 3) pa_nil))))) (pss_cons (ps_expr (pmx D_Reader_take (c_Reader T) (m_Reader_take T) (takes_of rfl rfl rfl rfl) hr (pv 0) (pa_cons pe_str pa_nil))) (pss_one (ps_dput (hu_of hr) (pe_fld (pv 0) rfl) (pe_fld (pv 2) rfl) (pk D_Setting_init (k_Setting T) (g_Setting T) hr (pa_cons (pe_fld (pv 2) rfl) (pa_cons (pv 3) pa_nil))) rfl))))))))))), ?_⟩)
  obtain ⟨L, r, i, ss, es, cs, t, rfl, h, ht, hk, hs3, qe, q⟩ := h
  refine ⟨_, rfl, r.a, r.dx, _, rfl, h.obj, rfl, r, i, t, _, rfl, h.ra, ht, fun p dx z hp hP hz hk' => ?_, fun hk' => absurd hk hk'⟩
  have h1 := h.step ht (not_last hk)
  have f1 := frm_a r H (rdO K r (i + 1))
  generalize upd H r.a (rdO K r (i + 1)) = H1 at h1 f1 ⊢
  obtain ⟨as, hdS, hsets⟩ := h1.sets
  have hkl : (kvOf (ss.map fun s => s.name) as).length = ss.length := by
    rw [kvOf_len (by rw [hsets.len, List.length_map]), List.length_map]
  obtain ⟨dx1, z1, hP1, -⟩ := h1.tok ht hp
  have hR : S1 ss (r.at_ i) = if 3 ≤ ss.length then .error ⟨4, t.place⟩ else (takeName (r.at_ (i + 1))).bind fun x => if ss.any (fun s => s.name == x.1.name) = true then .error ⟨5, x.1.place⟩ else
      (takeSign 58 x.2).bind fun r => (Vakepa.takeValues (r.length + 1) [] r).bind fun v => .ok (ss ++ [⟨x.1.name, v.1⟩], v.2) := by
    unfold S1
    rw [drop_one ht, here_at ht] <;> rfl
  refine ⟨_, rfl, _, rfl, r.a, _, r.dx, _, _, rfl, h1.obj, c_Reader T, n_Reader_settings T, rfl, p, dx1, r.dS, _, _, _, ss.length, _, rfl, off_le _ _ hP1, .inr ⟨_, hkl, hdS⟩, fun hn => ?_, fun hn => ?_⟩
  case refine_2 =>
    have hn' : ss.length = 3 := by
      have : (ss.length : Int) = 3 := hn
      omega
    rw [if_pos (by omega)] at hR
    exact ((qe _ hR).mono f1).raise
  have hn' : ss.length ≠ 3 := fun z => hn (by rw [z] <;> rfl)
  rw [if_neg (by omega)] at hR
  obtain ⟨t1, ht1⟩ := h1.tok_at
  refine ⟨_, rfl, r.a, r.dx, _, rfl, h1.obj, rfl, r, _, t1, _, rfl, h1.ra, ht1, fun p2 _ _ hp2 _ _ hk1 => ?_, fun hk1 => ?_⟩
  case refine_2 =>
    refine ((qe ⟨3, t1.place⟩ ?_).mono f1).raise
    rw [hR, name_no ht1 hk1] <;> rfl
  obtain ⟨b, hb, hbr⟩ := (kind_name _).mp hk1
  rw [name_ok ht1 hb hbr] at hR
  have h2 := h1.step ht1 (not_last hk1)
  have f2 := f1.trans (frm_a r H1 (rdO K r (i + 1 + 1)))
  generalize upd H1 r.a (rdO K r (i + 1 + 1)) = H2 at h2 f2 ⊢
  obtain ⟨dx2, z2, hP2, hz2⟩ := h2.tok ht1 hp2
  rw [hb] at hP2 hz2
  have hz2' : z2 = tx b := hz2
  subst hz2'
  have hP2' := off_le _ _ hP2
  obtain ⟨as2, hdS2, hsets2⟩ := h2.sets
  have hl2 : as2.length = (ss.map fun s => s.name).length := by rw [hsets2.len, List.length_map]
  have hany : (valV (kvOf (ss.map fun s => s.name) as2) (Sum.inr (tx b) : Key)).isSome = ss.any fun s => s.name == b := by
    rw [some_kv b hl2, List.any_map] <;> rfl
  refine ⟨_, rfl, p2, _, dx2, _, _, rfl, hP2', c_Token T, n_Token_text T, rfl, _, rfl, r.a, _, r.dx, _, _, rfl, h2.obj, c_Reader T, n_Reader_settings T, rfl, r.dS, _, rfl, DGet.k (k := Sum.inr (tx b)) hdS2, _, rfl, ?_⟩
  rw [hany]
  refine iteB (fun hc => ?_) (fun hc => ?_)
  · refine ⟨_, rfl, p2, _, dx2, _, _, rfl, hP2', c_Token T, n_Token_place T, rfl, born ?_⟩
    refine ((qe ⟨5, t1.place⟩ ?_).mono f2).raise
    rw [hR]
    show (if ss.any (fun s => s.name == b) = true then _ else _) = _
    rw [if_pos hc]
  have hR2 : S1 ss (r.at_ i) = (takeSign 58 (r.at_ (i + 1 + 1))).bind fun r => (Vakepa.takeValues (r.length + 1) [] r).bind fun v => .ok (ss ++ [(⟨b, v.1⟩ : BSet)], v.2) := by
    rw [hR]
    show (if ss.any (fun s => s.name == b) = true then _ else _) = _
    rw [if_neg (by rw [hc]; decide)]
  clear hR
  obtain ⟨t2, ht2⟩ := h2.tok_at
  refine ⟨_, rfl, r.a, r.dx, _, rfl, h2.obj, rfl, r, _, t2, _, rfl, h2.ra, ht2, fun _ _ _ _ _ _ hk2 => ?_, fun hk2 => ?_⟩
  case refine_2 =>
    refine ((qe ⟨3, t2.place⟩ ?_).mono f2).raise
    rw [hR2, show takeSign 58 (r.at_ (i + 1 + 1)) = _ from take_no ht2 (mt (ks 58 _).mpr hk2)] <;> rfl
  rw [show takeSign 58 (r.at_ (i + 1 + 1)) = _ from take_ok ht2 ((ks 58 _).mp hk2)] at hR2
  have h3 := h2.step ht2 (not_last hk2)
  have f3 := f2.trans (frm_a r H2 (rdO K r (i + 1 + 1 + 1)))
  generalize upd H2 r.a (rdO K r (i + 1 + 1 + 1)) = H3 at h3 f3 ⊢
  generalize hj : i + 1 + 1 + 1 = j at *
  refine ⟨(by decide), fun l hl => ?_⟩
  have h4 := h3.open_ hl (.lst [])
  have f4 : Same (Off r.M H) (Off r.M (upd H3 l (.lst []))) := f3.trans (off_new hl)
  have hl4 : upd H3 l (.lst []) l = some (.lst (([] : List Bytes).map sv)) := upd_same
  generalize upd H3 l (.lst []) = H4 at h4 f4 hl4 ⊢
  have hR3 : S1 ss (r.at_ i) = ((W1 [] (r.at_ j)).bind (wTail (r.at_ j).length)).bind fun v => .ok (ss ++ [(⟨b, v.1⟩ : BSet)], v.2) := by
    rw [hR2, ← values_one] <;> rfl
  clear hR2
  have hl0 : Off r.M H l = none := by
    cases e : Off r.M H l with
    | none => rfl
    | some o => rw [off_le _ _ (f3 _ _ e)] at hl; cases hl
  have back : ∀ {H'}, Same (Off (l :: r.M) H4) (Off (l :: r.M) H') → Same (Off r.M H) (Off r.M H') := fun {H'} g b o e => by
    have ne : b ≠ l := fun z => by rw [z, hl0] at e; cases e
    obtain ⟨e1, e2⟩ := off_some.mp (f4 b o e)
    obtain ⟨e3, e4⟩ := off_some.mp (g b o (off_some.mpr ⟨fun z => (List.mem_cons.mp z).elim ne e1, e2⟩))
    exact off_some.mpr ⟨e1, e4⟩
  have errs : ∀ {H' f}, Same (Off (l :: r.M) H4) (Off (l :: r.M) H') → S1 ss (r.at_ i) = .error f → Err K (l :: r.M) H' E f := fun {H' f} g e d H'' g' k => qe f e d H'' (back (g.trans g')) k
  refine ⟨_, rfl, r.a, r.dx, _, rfl, h4.obj, rfl, _, rfl, L, l, r, j, ss, [], es, cs, [], rfl, h4, hl4, by decide, fun f e => ?_, fun qs l' e H5 f5 h5 el hl5 hq5 => ?_⟩
  · exact errs (Same.refl _) (by rw [hR3, e] <;> rfl)
  rw [e, el] at hR3
  have hlen : (r.at_ (j + 1)).length < (r.at_ j).length := by
    have := h4.hi
    rw [List.length_drop, List.length_drop]
    omega
  refine ⟨fun m σ H' => ∃ i' qs n, m = r.toks.length - i' ∧ σ = [some (.ref r.a), some (.ref p), some (.ref p2), some (.ref l)] ∧ RS K (l :: L) H' r i' ss [] es cs ∧ Same (Off (l :: r.M) H4) (Off (l :: r.M) H') ∧ H' l = some (.lst (qs.map sv)) ∧ qs.length ≤ 4 ∧ i < i' ∧ (r.at_ i').length < n ∧
      S1 ss (r.at_ i) = (wTail n (qs, r.at_ i')).bind fun v => .ok (ss ++ [(⟨b, v.1⟩ : BSet)], v.2), ⟨_, j + 1, qs, _, rfl, rfl, h5, f5, hl5, hq5, by omega, hlen, hR3⟩, ?_⟩
  clear hlen hR3 e el l' hl5 hq5 h5 f5
  rintro m σ H6 ⟨i', qs, n, rfl, rfl, h6, f6, hl6, hq6, hi6, hn6, hR⟩
  obtain ⟨t6, ht6⟩ := h6.tok_at
  have hRt : wTail n (qs, r.at_ i') = if tokEq t6.tok (.sign 44) = true then Vakepa.takeValues n qs (r.at_ (i' + 1)) else (takeSign 59 (r.at_ i')).map fun m => (qs, m) := by
    show (if VakepBase.next (.sign 44) (r.at_ i') = true then Vakepa.takeValues n qs ((r.at_ i').drop 1) else _) = _
    rw [next_is ht6, drop_one ht6]
  refine ⟨_, rfl, r.a, r.dx, _, rfl, h6.obj, rfl, r, i', t6, _, rfl, h6.ra, ht6, fun hk6 => ?_, fun hk6 => ?_⟩
  · have h7 := h6.step ht6 (not_last hk6)
    have f7 := f6.trans (frm_c (l := l) (frm_a r H6 (rdO K r (i' + 1))))
    have hl7 : upd H6 r.a (rdO K r (i' + 1)) l = some (.lst (qs.map sv)) := by
      rw [upd_ne (fun z => h6.l_ne (by rw [z]; exact List.mem_cons_self ..))]
      exact hl6
    generalize upd H6 r.a (rdO K r (i' + 1)) = H7 at h7 f7 hl7 ⊢
    rw [if_pos ((ks 44 _).mp hk6)] at hRt
    obtain ⟨n', rfl⟩ : ∃ n', n = n' + 1 := ⟨n - 1, by omega⟩
    rw [hRt, values_one] at hR
    refine ⟨_, rfl, ?_⟩
    refine ⟨fun σ' H' => ∃ i'' qs, i' < i'' ∧ σ' = [some (.ref r.a), some (.ref p), some (.ref p2), some (.ref l)] ∧ RS K (l :: L) H' r i'' ss [] es cs ∧ Same (Off (l :: r.M) H4) (Off (l :: r.M) H') ∧ H' l = some (.lst (qs.map sv)) ∧ qs.length ≤ 4 ∧ (r.at_ i'').length < n' ∧
      S1 ss (r.at_ i) = (wTail n' (qs, r.at_ i'')).bind fun v => .ok (ss ++ [(⟨b, v.1⟩ : BSet)], v.2), ?_, ?_⟩
    · rintro σ' H' ⟨i'', qs, k1, k2, k3, k4, k5, k6, k7, k8⟩
      exact ⟨_, by have := h6.hi; omega, i'', qs, n', rfl, k2, k3, k4, k5, k6, by omega, k7, k8⟩
    refine ⟨_, rfl, r.a, r.dx, _, rfl, h7.obj, rfl, _, rfl, L, l, r, i' + 1, ss, [], es, cs, qs, rfl, h7, hl7, hq6, fun f e => ?_, fun qs8 l' e H8 f8 h8 el hl8 hq8 => ?_⟩
    · exact errs f7 (by rw [hR, e] <;> rfl)
    · rw [e, el] at hR
      refine ⟨i' + 1 + 1, qs8, by omega, rfl, h8, f7.trans f8, hl8, hq8, ?_, hR⟩
      have := h7.hi
      have := h8.hi
      rw [List.length_drop] at hn6 ⊢
      omega
  · rw [if_neg (mt (ks 44 _).mpr hk6)] at hRt
    rw [hRt] at hR
    refine ⟨_, rfl, ?_⟩
    refine ⟨_, rfl, r.a, r.dx, _, rfl, h6.obj, rfl, r, i', t6, _, rfl, h6.ra, ht6, fun _ _ _ _ _ _ hk7 => ?_, fun hk7 => ?_⟩
    case refine_2 =>
      refine (errs (f := ⟨3, t6.place⟩) f6 ?_).raise
      rw [hR, show takeSign 59 (r.at_ i') = _ from take_no ht6 (mt (ks 59 _).mpr hk7)] <;> rfl
    have h7 := h6.step ht6 (not_last hk7)
    have f7 := f6.trans (frm_c (l := l) (frm_a r H6 (rdO K r (i' + 1))))
    have hl7 : upd H6 r.a (rdO K r (i' + 1)) l = some (.lst (qs.map sv)) := by
      rw [upd_ne (fun z => h6.l_ne (by rw [z]; exact List.mem_cons_self ..))]
      exact hl6
    generalize upd H6 r.a (rdO K r (i' + 1)) = H7 at h7 f7 hl7 ⊢
    obtain ⟨dx7, z7, hP7, hz7⟩ := h7.tok ht1 hp2
    rw [hb] at hP7 hz7
    have hz7' : z7 = tx b := hz7
    subst hz7'
    refine ⟨_, rfl, p2, _, dx7, _, _, rfl, off_le _ _ hP7, c_Token T, n_Token_text T, rfl, _, rfl, fun x dx hx hd ne => ⟨x, dx, _, _, rfl, upd_same, fun H8 g1 g2 => ⟨rfl, ?_⟩⟩⟩
    have s8 := kept hx hd g2
    have hO : S1 ss (r.at_ i) = .ok (ss ++ [⟨b, qs⟩], r.at_ (i' + 1)) := by
      rw [hR, show takeSign 59 (r.at_ i') = _ from take_ok ht6 ((ks 59 _).mp hk7)] <;> rfl
    have hc7 := h7.close
    have h8 := hc7.same s8
    obtain ⟨as8, hdS8, hsets8⟩ := h8.sets
    have hl8 : as8.length = (ss.map fun s => s.name).length := by rw [hsets8.len, List.length_map]
    have hat : SetAt K (Off (L ++ r.M) H8) x ⟨b, qs⟩ := ⟨dx, l, off_some.mpr ⟨hc7.off_a (fun o e => by rw [hx] at e; cases e), g1⟩, off_some.mpr ⟨(List.nodup_cons.mp h7.nd).1, s8 _ _ hl7⟩⟩
    refine ⟨_, rfl, r.a, _, r.dx, _, _, rfl, h8.obj, c_Reader T, n_Reader_settings T, rfl, _, rfl, p2, _, dx7, _, _, rfl, s8 _ _ (off_le _ _ hP7), c_Token T, n_Token_text T, rfl, r.dS, _, rfl, DPut.k (k := Sum.inr (tx b)) hdS8 ?_, ?_⟩
    · rw [kvOf_len hl8, List.length_map]
      exact Nat.lt_of_le_of_lt hs3 (by decide)
    · refine q _ _ hO _ _ (back (f7.trans ((off_same s8).trans (frm_c (frm_m (by simp [Rd.M])))))) (h8.addSet rfl hdS8 hat hc) rfl (by omega) ?_
      rw [List.length_append]
      show ss.length + 1 ≤ 3
      omega
end
end Vf

set_option Elab.async false
set_option linter.all false
set_option maxRecDepth 100000
set_option maxHeartbeats 4000000
/-! Bodies, statements, whens: one calls the other, at most four deep. -/
namespace Vf
open PySem PySem.Spec PyProof.Rows L2
open VakepBase (Bytes PTok Toks RESERVED tokEq PName word taken takeName takeSign takeWord)
open Vakepa (Piece Raw RawPart takeStmts)
section
variable {P : Program} {w : World} {K : PySem.W.Frag} {mg : Str → Option Value} {base : Heap}
/-- a body in brackets, that stands in d whens; n: the specification's fuel -/
def sp_read_body (d : Nat) (K : PySem.W.Frag) : Sp := fun vs H Q E => ∃ (L : List Addr) (r : Rd) (i n : Nat) (ss : List BSet) (ps : List RawPart) (es : List Bytes) (cs : List PName),
  vs = [.ref r.a, .int d] ∧ d ≤ 3 ∧ RS K L H r i ss ps es cs ∧ (r.at_ (i + 1)).length < n ∧ (∀ f, ((takeSign 123 (r.at_ i)).bind fun l => takeStmts ss n d l) = .error f → Err K r.M H E f) ∧
  (∀ x l', ((takeSign 123 (r.at_ i)).bind fun l => takeStmts ss n d l) = .ok (x, l') → ∀ l us H' i', Same (Off r.M H) (Off r.M H') → RS K L H' r i' ss ps es (cs ++ callees x) → l' = r.at_ i' → i < i' → Off (L ++ r.M) H' l = some (.lst us) → BodyAt K ss (Off (L ++ r.M) H') x us → Q (.ref l) H')
def sp_read_statement (d : Nat) (K : PySem.W.Frag) : Sp := fun vs H Q E => ∃ (L : List Addr) (r : Rd) (i n : Nat) (ss : List BSet) (ps : List RawPart) (es : List Bytes) (cs : List PName),
  vs = [.ref r.a, .int d] ∧ RS K L H r i ss ps es cs ∧ (r.at_ i).length ≤ n ∧ (∀ f, one ss n d (r.at_ i) = .error f → Err K r.M H E f) ∧ StOk K L H Q r i ss ps es cs (one ss n d (r.at_ i))
def sp_read_when (d : Nat) (K : PySem.W.Frag) : Sp := fun vs H Q E => ∃ (L : List Addr) (r : Rd) (i n : Nat) (ss : List BSet) (ps : List RawPart) (es : List Bytes) (cs : List PName) (t : PTok),
  vs = [.ref r.a, .int d] ∧ RS K L H r i ss ps es cs ∧ r.toks[i]? = some t ∧ kindOf t.tok = "when" ∧ (r.at_ i).length ≤ n ∧ (∀ f, oneWhen ss n d (r.at_ i) = .error f → Err K r.M H E f) ∧ StOk K L H Q r i ss ps es cs (oneWhen ss n d (r.at_ i))
abbrev N_Reader_read_body : List Str := ["self", "depth", "body"]
abbrev P_Reader_read_body : List Str := ["self", "depth"]
theorem sc_Reader_read_body : FnScope N_Reader_read_body P_Reader_read_body (defScope s_Reader_read_body) := ⟨rfl, rfl, rfl, by decide +kernel, rfl, by decide +kernel, by decide +kernel⟩
abbrev N_Reader_read_statement : List Str := ["self", "depth", "kind"]
abbrev P_Reader_read_statement : List Str := ["self", "depth"]
theorem sc_Reader_read_statement : FnScope N_Reader_read_statement P_Reader_read_statement (defScope s_Reader_read_statement) := ⟨rfl, rfl, rfl, by decide +kernel, rfl, by decide +kernel, by decide +kernel⟩
abbrev N_Reader_read_when : List Str := ["self", "depth", "opening", "setting", "word"]
abbrev P_Reader_read_when : List Str := ["self", "depth"]
theorem sc_Reader_read_when : FnScope N_Reader_read_when P_Reader_read_when (defScope s_Reader_read_when) := ⟨rfl, rfl, rfl, by decide +kernel, rfl, by decide +kernel, by decide +kernel⟩
theorem ok_Reader_read_body (T : Tx K mg) (D_Reader_take : Df P w K mg base (L2.CX P w) (3) (He.ma K (He.ga K "Reader") "take") P_Reader_take (sp_take K)) (D_Reader_take_if : Df P w K mg base CX0 (2) (He.ma K (He.ga K "Reader") "take_if") P_Reader_take_if (sp_take_if K)) {k d : Nat} (hk : 3 ≤ k) (D_Reader_read_statement : Df P w K mg base (L2.CX P w) k (He.ma K (He.ga K "Reader") "read_statement") P_Reader_read_statement (sp_read_statement d K)) : Df P w K mg base (L2.CX P w) (k+1) (He.ma K (He.ga K "Reader") "read_body") P_Reader_read_body (sp_read_body d K) := by
  refine dfx_mk (F_Reader_read_body T) sc_Reader_read_body (fun _ _ _ _ _ _ us hl => match us, hl with | [_, _], _ => rfl) (fun vs H Q E h => by obtain ⟨_, _, _, _, _, _, _, _, rfl, _⟩ := h; rfl) (fun cdv A outer s H vs Q E hr h => ⟨_, (pss_cons (ps_expr (pmx D_Reader_take (c_Reader T) (m_Reader_take T) (takes_of rfl rfl rfl rfl) hr (pv 0) (pa_cons pe_str pa_nil))) (pss_cons (ps_set (i := 2) sc_Reader_read_body.nd rfl (Or.inl rfl) (pe_lst pa_nil)) (pss_cons (ps_while (passes_of rfl) (pt_not (pt_val (pm D_Reader_take_if (c_Reader T) (m_Reader_take_if T)  hr (pv 0) (pa_cons pe_str pa_nil)))) (pss_one (ps_expr (pe_bm PySem.F.plainAttrs_list PySem.F.slot_list_append PySem.F.type_list_append mt_append (pv 2) (pa_cons (pmx D_Reader_read_statement (c_Reader T) (m_Reader_read_statement T) (takes_of rfl rfl rfl rfl) hr (pv 0) (pa_cons (pv 1) pa_nil)) pa_nil))))) (pss_one (ps_ret (pv 2)))))), ?_⟩)
  obtain ⟨L, r, i, n, ss, ps, es, cs, rfl, -, h, hn, qe, q⟩ := h
  obtain ⟨t, ht⟩ := h.tok_at
  refine ⟨_, rfl, r.a, r.dx, _, rfl, h.obj, rfl, r, i, t, _, rfl, h.ra, ht, fun _ _ _ _ _ _ hk' => ?_, fun hk' => ?_⟩
  case refine_2 =>
    refine (qe ⟨3, t.place⟩ ?_).raise
    rw [show takeSign 123 (r.at_ i) = _ from take_no ht (mt (ks 123 _).mpr hk')] <;> rfl
  have hR : ((takeSign 123 (r.at_ i)).bind fun l => takeStmts ss n d l) = takeStmts ss n d (r.at_ (i + 1)) := by
    rw [show takeSign 123 (r.at_ i) = _ from take_ok ht ((ks 123 _).mp hk')] <;> rfl
  rw [hR] at qe q
  clear hR
  have h1 := h.step ht (not_last hk')
  have f1 := frm_a r H (rdO K r (i + 1))
  generalize upd H r.a (rdO K r (i + 1)) = H1 at h1 f1 ⊢
  refine ⟨(by decide), fun l hl => ?_⟩
  have h2 := h1.open_ hl (.lst [])
  have f2 : Same (Off r.M H) (Off r.M (upd H1 l (.lst []))) := f1.trans (off_new hl)
  have hl2 : upd H1 l (.lst []) l = some (.lst []) := upd_same
  generalize upd H1 l (.lst []) = H2 at h2 f2 hl2 ⊢
  have hl0 : Off r.M H l = none := by
    cases e : Off r.M H l with
    | none => rfl
    | some o => rw [off_le _ _ (f1 _ _ e)] at hl; cases hl
  have back : ∀ {H'}, Same (Off (l :: r.M) H2) (Off (l :: r.M) H') → Same (Off r.M H) (Off r.M H') := fun {H'} g b o e => by
    have ne : b ≠ l := fun z => by rw [z, hl0] at e; cases e
    obtain ⟨e1, e2⟩ := off_some.mp (f2 b o e)
    obtain ⟨e3, e4⟩ := off_some.mp (g b o (off_some.mpr ⟨fun z => (List.mem_cons.mp z).elim ne e1, e2⟩))
    exact off_some.mpr ⟨e1, e4⟩
  refine ⟨fun m σ H' => ∃ i' n' pre us, m = r.toks.length - i' ∧ σ = [some (.ref r.a), some (.int d), some (.ref l)] ∧ RS K (l :: L) H' r i' ss ps es (cs ++ callees pre) ∧ Same (Off (l :: r.M) H2) (Off (l :: r.M) H') ∧ H' l = some (.lst us) ∧
      BodyAt K ss (Off (l :: L ++ r.M) H') pre us ∧ us.length ≤ i' ∧ i < i' ∧ (r.at_ i').length < n' ∧ takeStmts ss n d (r.at_ (i + 1)) = (takeStmts ss n' d (r.at_ i')).map fun y => (rapp pre y.1, y.2),
    ⟨_, i + 1, n, .done, [], rfl, rfl, by rw [show callees .done = [] from rfl, List.append_nil]; exact h2, Same.refl _, hl2, rfl, Nat.zero_le _, by omega, hn, ?_⟩, ?_⟩
  · cases takeStmts ss n d (r.at_ (i + 1)) <;> rfl
  rintro m σ H4 ⟨i', n', pre, us, rfl, rfl, h4, f4, hl4, hb4, hu4, hi4, hn4, hR⟩
  obtain ⟨t4, ht4⟩ := h4.tok_at
  refine ⟨_, rfl, r.a, r.dx, _, rfl, h4.obj, rfl, r, i', t4, _, rfl, h4.ra, ht4, fun hk4 => ?_, fun hk4 => ?_⟩
  · -- the end of the body
    have h5 := h4.step ht4 (not_last hk4)
    have f5 := f4.trans (frm_c (l := l) (frm_a r H4 (rdO K r (i' + 1))))
    have q5 : Same (Off (l :: L ++ r.M) H4) (Off (L ++ r.M) (upd H4 r.a (rdO K r (i' + 1)))) := fun b o e => by
      obtain ⟨e1, e2⟩ := off_some.mp e
      refine off_some.mpr ⟨fun z => e1 (List.mem_cons_of_mem _ z), ?_⟩
      rw [upd_ne (fun z => e1 (by rw [z]; exact List.mem_cons_of_mem _ (RS.a_in L r)))]
      exact e2
    have hl5 : upd H4 r.a (rdO K r (i' + 1)) l = some (.lst us) := by
      rw [upd_ne (fun z => h4.l_ne (by rw [z]; exact List.mem_cons_self ..))]
      exact hl4
    generalize upd H4 r.a (rdO K r (i' + 1)) = H5 at h5 f5 hl5 q5 ⊢
    obtain ⟨n'', rfl⟩ : ∃ n'', n' = n'' + 1 := ⟨n' - 1, by omega⟩
    have hO : takeStmts ss n d (r.at_ (i + 1)) = .ok (pre, r.at_ (i' + 1)) := by
      rw [hR, stmts_one, next_is ht4, if_pos ((ks 125 _).mp hk4), drop_one ht4]
      show Except.ok (rapp pre .done, _) = _
      rw [rapp_done]
    refine ⟨_, rfl, ?_⟩
    exact ⟨_, rfl, q _ _ hO _ us _ _ (back f5) h5.close rfl (by omega) (off_some.mpr ⟨(List.nodup_cons.mp h5.nd).1, hl5⟩) (hb4.same q5)⟩
  · -- one more statement
    obtain ⟨n'', rfl⟩ : ∃ n'', n' = n'' + 1 := ⟨n' - 1, by omega⟩
    rw [stmts_one, next_is ht4, if_neg (mt (ks 125 _).mpr hk4)] at hR
    refine ⟨_, rfl, ?_⟩
    refine ⟨fun σ' H' => ∃ i'' pre us, i' < i'' ∧ σ' = [some (.ref r.a), some (.int d), some (.ref l)] ∧ RS K (l :: L) H' r i'' ss ps es (cs ++ callees pre) ∧ Same (Off (l :: r.M) H2) (Off (l :: r.M) H') ∧ H' l = some (.lst us) ∧
      BodyAt K ss (Off (l :: L ++ r.M) H') pre us ∧ us.length ≤ i'' ∧ (r.at_ i'').length < n'' ∧ takeStmts ss n d (r.at_ (i + 1)) = (takeStmts ss n'' d (r.at_ i'')).map fun y => (rapp pre y.1, y.2), ?_, ?_⟩
    · rintro σ' H' ⟨i'', pre, us, k1, k2, k3, k4, k5, k6, k7, k8, k9⟩
      exact ⟨_, by have := h4.hi; omega, i'', n'', pre, us, rfl, k2, k3, k4, k5, k6, k7, by omega, k8, k9⟩
    refine ⟨_, rfl, .inl ⟨rfl, _, SqL.of hl4⟩, _, rfl, r.a, r.dx, _, rfl, h4.obj, rfl, _, rfl, l :: L, r, i', n'', ss, ps, es, _, rfl, h4, by omega, fun f e => ?_, fun x l' e v H5 i5 f5 h5 el hi5 hb5 => ?_⟩
    · refine fun d' H' g k => qe f (by rw [hR, e] <;> rfl) d' H' (back (f4.trans (frm_c g))) k
    · rw [e, el] at hR
      have hl5 : H5 l = some (.lst us) := off_le _ _ (f5 _ _ (off_some.mpr ⟨h4.l_ne, hl4⟩))
      have hsm := h5.small
      have hhi := h5.hi
      refine ⟨l, us, v, rfl, rfl, hl5, Nat.lt_of_le_of_lt (by omega : _ ≤ 5000) (by decide), ?_⟩
      have q5 : Same (Off (l :: L ++ r.M) H4) (Off (l :: L ++ r.M) H5) := fun b o e => by
        obtain ⟨e1, e2⟩ := off_some.mp e
        exact off_some.mpr ⟨e1, off_le _ _ (f5 b o (off_some.mpr ⟨fun z => e1 (List.mem_append_right _ z), e2⟩))⟩
      have q6 : Off (l :: L ++ r.M) (upd H5 l (.lst (us ++ [v]))) = Off (l :: L ++ r.M) H5 := off_upd (List.mem_cons_self ..)
      refine ⟨i5, rapp pre x, us ++ [v], hi5, rfl, ?_, f4.trans ((frm_c f5).trans frm_l), upd_same, ?_, ?_, ?_, ?_⟩
      · rw [callees_app, ← List.append_assoc]
        exact h5.set _
      · rw [q6]
        exact BodyAt.app hb5 (hb4.same q5)
      · rw [List.length_append]
        show us.length + 1 ≤ i5
        omega
      · rw [List.length_drop] at hn4 ⊢
        omega
      · rw [hR]
        show ((takeStmts ss n'' d (r.at_ i5)).map _).map _ = _
        cases takeStmts ss n'' d (r.at_ i5) with
        | error f => rfl
        | ok y =>
          show Except.ok (rapp pre (rapp x y.1), _) = Except.ok (rapp (rapp pre x) y.1, _)
          rw [rapp_assoc]
theorem ok_Reader_read_statement (T : Tx K mg) (D_Reader_ahead : Df P w K mg base CX0 (1) (He.ma K (He.ga K "Reader") "ahead") P_Reader_ahead (sp_ahead K)) (D_Reader_read_say : Df P w K mg base (L2.CX P w) (5) (He.ma K (He.ga K "Reader") "read_say") P_Reader_read_say (spStmt K "say" fun _ l => oneSay l)) (D_Reader_read_call : Df P w K mg base (L2.CX P w) (5) (He.ma K (He.ga K "Reader") "read_call") P_Reader_read_call (spStmt K "call" fun _ l => oneCall l)) (D_Reader_read_make : Df P w K mg base (L2.CX P w) (5) (He.ma K (He.ga K "Reader") "read_make") P_Reader_read_make (spStmt K "make" oneMake)) (D_Fault_init : Df P w K mg base CX0 (1) (He.ma K (He.ga K "Fault") "__init__") P_Fault_init (spFault (He.ga K "Fault"))) {k d : Nat} (hk : 5 ≤ k) (D_Reader_read_when : Df P w K mg base (L2.CX P w) k (He.ma K (He.ga K "Reader") "read_when") P_Reader_read_when (sp_read_when d K)) : Df P w K mg base (L2.CX P w) (k+1) (He.ma K (He.ga K "Reader") "read_statement") P_Reader_read_statement (sp_read_statement d K) := by
  refine dfx_mk (F_Reader_read_statement T) sc_Reader_read_statement (fun _ _ _ _ _ _ us hl => match us, hl with | [_, _], _ => rfl) (fun vs H Q E h => by obtain ⟨_, _, _, _, _, _, _, _, rfl, _⟩ := h; rfl) (fun cdv A outer s H vs Q E hr h => ⟨_, (pss_cons (ps_set (i := 2) sc_Reader_read_statement.nd rfl (Or.inl rfl) (pe_fld (pm0 D_Reader_ahead (c_Reader T) (m_Reader_ahead T)  hr (pv 0)) rfl)) (pss_cons (ps_if (pt_cmpR op_eq (pv 2) pe_str (nomark _)) (pss_one (ps_ret (pmx0 D_Reader_read_say (c_Reader T) (m_Reader_read_say T) (takes_of rfl rfl rfl rfl) hr (pv 0)))) pss_nil) (pss_cons (ps_if (pt_cmpR op_eq (pv 2) pe_str (nomark _)) (pss_one (ps_ret (pmx0 D_Reader_read_call (c_Reader T) (m_Reader_read_call T) (takes_of rfl rfl rfl rfl) hr (pv 0)))) pss_nil) (pss_cons (ps_if (pt_cmpR op_eq (pv 2) pe_str (nomark _)) (pss_one (ps_ret (pmx0 D_Reader_read_make (c_Reader T) (m_Reader_read_make T) (takes_of rfl rfl rfl rfl) hr (pv 0)))) pss_nil) (pss_cons (ps_if (pt_cmpR op_eq (pv 2) pe_str (nomark _)) (pss_one (ps_ret (pmx D_Reader_read_when (c_Reader T) (m_Reader_read_when T) (takes_of rfl rfl rfl rfl) hr (pv 0) (pa_cons (pv 1) pa_nil)))) pss_nil) (pss_one (ps_raise rfl (takes_of rfl rfl rfl rfl) (pfault D_Fault_init (ecl_of (e_2 T)) (of_decide_eq_true (e_6 T)) (of_decide_eq_true (e_7 T)) (g_Fault T) hr (pa_cons (pg (i_NOT_ALLOWED T)) (pa_cons (pe_fld (pm0 D_Reader_ahead (c_Reader T) (m_Reader_ahead T)  hr (pv 0)) rfl) pa_nil)))))))))), ?_⟩)
  obtain ⟨L, r, i, n, ss, ps, es, cs, rfl, h, hn, qe, q⟩ := h
  obtain ⟨t, ht⟩ := h.tok_at
  obtain ⟨p, dx, z, hp, h2, h3⟩ := h.ra.tok T ht
  refine ⟨_, rfl, r.a, r.dx, _, rfl, h.obj, rfl, r, i, p, rfl, h.ra, hp, p, _, dx, _, _, rfl, h2, c_Token T, n_Token_kind T, rfl, ?_⟩
  have hone : one ss n d (r.at_ i) = if tokEq t.tok (.name (word "say")) = true then oneSay (r.at_ i) else if tokEq t.tok (.name (word "call")) = true then oneCall (r.at_ i) else if tokEq t.tok (.name (word "make")) = true then oneMake ss (r.at_ i) else oneWhen ss n d (r.at_ i) := by
    unfold one VakepBase.nextWord
    rw [next_is ht, next_is ht, next_is ht]
  refine ⟨_, rfl, rfl, _, rfl, ?_⟩
  refine iteD (fun h1 => ?_) (fun h1 => ?_)
  · have hk := str_v.mp h1
    rw [if_pos ((kw (s := "say") _).mp hk)] at hone
    rw [hone] at qe q
    exact ⟨_, rfl, r.a, r.dx, _, rfl, h.obj, rfl, L, r, i, ss, ps, es, cs, t, rfl, h, ht, hk, qe, q⟩
  rw [if_neg (fun z => h1 (str_v.mpr ((kw (s := "say") _).mpr z)))] at hone
  refine ⟨_, rfl, rfl, _, rfl, ?_⟩
  refine iteD (fun h1 => ?_) (fun h1 => ?_)
  · have hk := str_v.mp h1
    rw [if_pos ((kw (s := "call") _).mp hk)] at hone
    rw [hone] at qe q
    exact ⟨_, rfl, r.a, r.dx, _, rfl, h.obj, rfl, L, r, i, ss, ps, es, cs, t, rfl, h, ht, hk, qe, q⟩
  rw [if_neg (fun z => h1 (str_v.mpr ((kw (s := "call") _).mpr z)))] at hone
  refine ⟨_, rfl, rfl, _, rfl, ?_⟩
  refine iteD (fun h1 => ?_) (fun h1 => ?_)
  · have hk := str_v.mp h1
    rw [if_pos ((kw (s := "make") _).mp hk)] at hone
    rw [hone] at qe q
    exact ⟨_, rfl, r.a, r.dx, _, rfl, h.obj, rfl, L, r, i, ss, ps, es, cs, t, rfl, h, ht, hk, qe, q⟩
  rw [if_neg (fun z => h1 (str_v.mpr ((kw (s := "make") _).mpr z)))] at hone
  rw [hone] at qe q
  refine ⟨_, rfl, rfl, _, rfl, ?_⟩
  refine iteD (fun h1 => ?_) (fun h1 => ?_)
  · have hk := str_v.mp h1
    exact ⟨_, rfl, r.a, r.dx, _, rfl, h.obj, rfl, _, rfl, L, r, i, n, ss, ps, es, cs, t, rfl, h, ht, hk, hn, qe, q⟩
  · refine ⟨_, rfl, r.a, r.dx, _, rfl, h.obj, rfl, r, i, p, rfl, h.ra, hp, p, _, dx, _, _, rfl, h2, c_Token T, n_Token_place T, rfl, born ?_⟩
    refine (qe ⟨3, t.place⟩ ?_).raise
    unfold oneWhen
    rw [show takeWord "when" (r.at_ i) = _ from take_no ht (fun z => h1 (str_v.mpr ((kw (s := "when") _).mpr z)))] <;> rfl
end
end Vf

set_option Elab.async false
set_option linter.all false
set_option maxRecDepth 100000
set_option maxHeartbeats 4000000
/-! Whens. -/
namespace Vf
open PySem PySem.Spec PyProof.Rows L2
open VakepBase (Bytes PTok Toks RESERVED tokEq PName word taken takeName takeSign takeWord)
open Vakepa (Piece Raw RawPart takeStmts)
section
variable {P : Program} {w : World} {K : PySem.W.Frag} {mg : Str → Option Value} {base : Heap}
theorem find_any {α : Type} {l : List α} {p : α → Bool} : (l.findIdx? p).isSome = l.any p := by
  cases h : l.findIdx? p with
  | none =>
    have := List.findIdx?_eq_none_iff.mp h
    symm
    rw [Option.isSome_none, ← Bool.not_eq_true, List.any_eq_true]
    rintro ⟨x, hx, e⟩
    rw [this x hx] at e
    cases e
  | some k =>
    obtain ⟨x, h1, h2⟩ := find_get h
    symm
    rw [Option.isSome_some, List.any_eq_true]
    exact ⟨x, List.mem_of_getElem? h1, h2⟩
theorem find_map {α β : Type} (f : α → β) (p : β → Bool) (l : List α) : (l.map f).findIdx? p = l.findIdx? fun x => p (f x) := by
  rw [List.findIdx?_map] <;> rfl
theorem ok_Reader_read_when (T : Tx K mg) (D_Reader_take : Df P w K mg base (L2.CX P w) (3) (He.ma K (He.ga K "Reader") "take") P_Reader_take (sp_take K)) (D_check_known : Df P w K mg base (L2.CX P w) (3) (He.ga K "check_known") P_check_known (sp_check_known K)) (D_Fault_init : Df P w K mg base CX0 (1) (He.ma K (He.ga K "Fault") "__init__") P_Fault_init (spFault (He.ga K "Fault"))) (D_When_init : Df P w K mg base CX0 (1) (He.ma K (He.ga K "When") "__init__") P_When_init (spKeep3 (He.ga K "When") "setting" "word" "body")) {k d : Nat} (hk : 4 ≤ k) (hd : d ≤ 3) (D_Reader_read_body : Df P w K mg base (L2.CX P w) k (He.ma K (He.ga K "Reader") "read_body") P_Reader_read_body (sp_read_body (d + 1) K)) : Df P w K mg base (L2.CX P w) (k+1) (He.ma K (He.ga K "Reader") "read_when") P_Reader_read_when (sp_read_when d K) := by
  refine dfx_mk (F_Reader_read_when T) sc_Reader_read_when (fun _ _ _ _ _ _ us hl => match us, hl with | [_, _], _ => rfl) (fun vs H Q E h => by obtain ⟨_, _, _, _, _, _, _, _, _, rfl, _⟩ := h; rfl) (fun cdv A outer s H vs Q E hr h => ⟨_, (pss_cons (ps_set (i := 2) sc_Reader_read_when.nd rfl (Or.inl rfl) (pmx D_Reader_take (c_Reader T) (m_Reader_take T) (takes_of rfl rfl rfl rfl) hr (pv 0) (pa_cons pe_str pa_nil))) (pss_cons (ps_if (pt_cmpR op_eq (pv 1) (pg (i_DEEPEST_WHEN T)) (nomark _)) (pss_one (ps_raise rfl (takes_of rfl rfl rfl rfl) (pfault D_Fault_init (ecl_of (e_2 T)) (of_decide_eq_true (e_6 T)) (of_decide_eq_true (e_7 T)) (g_Fault T) hr (pa_cons (pg (i_TOO_MANY T)) (pa_cons (pe_fld (pv 2) rfl) pa_nil))))) pss_nil) (pss_cons (ps_set (i := 3) sc_Reader_read_when.nd rfl (Or.inl rfl) (pmx D_Reader_take (c_Reader T) (m_Reader_take T) (takes_of rfl rfl rfl rfl) hr (pv 0) (pa_cons (pg (t_NAME T)) pa_nil))) (pss_cons (ps_expr (pfx D_check_known (g_check_known T) (takes_of rfl rfl rfl rfl) hr (pa_cons (pv 3) (pa_cons (pe_fld (pv 0) rfl) pa_nil)))) (pss_cons (ps_expr (pmx D_Reader_take (c_Reader T) (m_Reader_take T) (takes_of rfl rfl rfl rfl) hr (pv 0) (pa_cons pe_str pa_nil))) (pss_cons (ps_set (i := 4) sc_Reader_read_when.nd rfl (Or.inl rfl) (pmx D_Reader_take (c_Reader T) (m_Reader_take T) (takes_of rfl rfl rfl rfl) hr (pv 0) (pa_cons (pg (t_NAME T)) pa_nil))) (pss_cons (ps_expr (pfx D_check_known (g_check_known T) (takes_of rfl rfl rfl rfl) hr (pa_cons (pv 4) (pa_cons (pe_fld (pe_dget (hu_of hr) (pe_fld (pv 0) rfl) (pe_fld (pv 3) rfl) (fun _ _ => rfl)) rfl) pa_nil)))) (pss_one (ps_ret (pk D_When_init (k_When T) (g_When T) hr (pa_cons (pe_fld (pv 3) rfl) (pa_cons (pe_fld (pv 4) rfl) (pa_cons (pmx D_Reader_read_body (c_Reader T) (m_Reader_read_body T) (takes_of rfl rfl rfl rfl) hr (pv 0) (pa_cons (pe_op op_add (pv 1) pe_int) pa_nil)) pa_nil))))))))))))), ?_⟩)
  obtain ⟨L, r, i, n, ss, ps, es, cs, t, rfl, h, ht, hk', hn, qe, q⟩ := h
  refine ⟨_, rfl, r.a, r.dx, _, rfl, h.obj, rfl, r, i, t, _, rfl, h.ra, ht, fun p dx z hp hP hz hk2 => ?_, fun hk2 => absurd hk' hk2⟩
  have h1 := h.step ht (not_last hk2)
  have f1 := frm_a r H (rdO K r (i + 1))
  generalize upd H r.a (rdO K r (i + 1)) = H1 at h1 f1 ⊢
  obtain ⟨dx1, z1, hP1, -⟩ := h1.tok ht hp
  have hR : oneWhen ss n d (r.at_ i) = if 3 ≤ d then .error ⟨4, t.place⟩ else (takeName (r.at_ (i + 1))).bind fun x => match ss.findIdx? fun s => s.name == x.1.name with
      | none => .error ⟨8, x.1.place⟩
      | some k => (takeWord "is" x.2).bind fun r => (takeName r).bind fun v => match ((ss[k]?).map fun s => s.values).bind fun vs => vs.findIdx? fun y => y == v.1.name with
        | none => .error ⟨8, v.1.place⟩
        | some j => (takeSign 123 v.2).bind fun r => (takeStmts ss n (d + 1) r).map fun b => (.when_ k j b.1 .done, b.2) := by
    unfold oneWhen
    rw [show takeWord "when" (r.at_ i) = _ from take_ok ht ((kw (s := "when") _).mp hk2), here_at ht] <;> rfl
  refine ⟨_, rfl, rfl, _, rfl, ?_⟩
  refine iteD (fun hd3 => ?_) (fun hd3 => ?_)
  · have hd3' : d = 3 := by
      injection hd3 with hd3
      omega
    rw [if_pos (by omega)] at hR
    exact ⟨_, rfl, p, _, dx1, _, _, rfl, off_le _ _ hP1, c_Token T, n_Token_place T, rfl, born ((qe _ hR).mono f1).raise⟩
  have hd3' : d < 3 := by
    rcases Nat.lt_or_ge d 3 with z | z
    · exact z
    · exact absurd (by rw [show d = 3 by omega] <;> rfl) hd3
  rw [if_neg (by omega)] at hR
  obtain ⟨t1, ht1⟩ := h1.tok_at
  refine ⟨_, rfl, r.a, r.dx, _, rfl, h1.obj, rfl, r, _, t1, _, rfl, h1.ra, ht1, fun p2 _ _ hp2 _ _ hk3 => ?_, fun hk3 => ?_⟩
  case refine_2 =>
    refine ((qe ⟨3, t1.place⟩ ?_).mono f1).raise
    rw [hR, name_no ht1 hk3] <;> rfl
  obtain ⟨b, hb, hbr⟩ := (kind_name _).mp hk3
  rw [name_ok ht1 hb hbr] at hR
  have h2 := h1.step ht1 (not_last hk3)
  have f2 := f1.trans (frm_a r H1 (rdO K r (i + 1 + 1)))
  generalize upd H1 r.a (rdO K r (i + 1 + 1)) = H2 at h2 f2 ⊢
  obtain ⟨dx2, z2, hP2, hz2⟩ := h2.tok ht1 hp2
  rw [hb] at hP2 hz2
  have hz2' : z2 = tx b := hz2
  subst hz2'
  obtain ⟨as2, hdS2, hsets2⟩ := h2.sets
  have hl2 : as2.length = (ss.map fun s => s.name).length := by rw [hsets2.len, List.length_map]
  have hany : ((ss.map fun s => s.name).any fun x => x == b) = (ss.findIdx? fun s => s.name == b).isSome := by
    rw [find_any, List.any_map] <;> rfl
  have hR2 : oneWhen ss n d (r.at_ i) = match ss.findIdx? fun s => s.name == b with
      | none => .error ⟨8, t1.place⟩
      | some k => (takeWord "is" (r.at_ (i + 1 + 1))).bind fun r => (takeName r).bind fun v => match ((ss[k]?).map fun s => s.values).bind fun vs => vs.findIdx? fun y => y == v.1.name with
        | none => .error ⟨8, v.1.place⟩
        | some j => (takeSign 123 v.2).bind fun r => (takeStmts ss n (d + 1) r).map fun b => (.when_ k j b.1 .done, b.2) := hR
  clear hR
  refine ⟨_, rfl, _, rfl, r.a, _, r.dx, _, _, rfl, h2.obj, c_Reader T, n_Reader_settings T, rfl, p2, dx2, r.dS, _, b, t1.place, _, rfl, off_le _ _ hP2, .inr ⟨_, hl2, hdS2⟩, fun hc => ?_, fun hc => ?_⟩
  case refine_2 =>
    rw [hany] at hc
    have hno : (ss.findIdx? fun s => s.name == b) = none := Option.not_isSome_iff_eq_none.mp (by rw [hc]; decide)
    rw [hno] at hR2
    exact ((qe _ hR2).mono f2).raise
  rw [hany] at hc
  obtain ⟨x, hx⟩ := Option.isSome_iff_exists.mp hc
  obtain ⟨S, hS, hSn⟩ := find_get hx
  have hSb : S.name = b := eq_of_beq hSn
  rw [hx] at hR2
  have hR3 : oneWhen ss n d (r.at_ i) = (takeWord "is" (r.at_ (i + 1 + 1))).bind fun r => (takeName r).bind fun v => match S.values.findIdx? fun y => y == v.1.name with
        | none => .error ⟨8, v.1.place⟩
        | some j => (takeSign 123 v.2).bind fun r => (takeStmts ss n (d + 1) r).map fun b => (.when_ x j b.1 .done, b.2) := by
    rw [hR2]
    dsimp only
    rw [hS] <;> rfl
  clear hR2
  obtain ⟨t2, ht2⟩ := h2.tok_at
  refine ⟨_, rfl, r.a, r.dx, _, rfl, h2.obj, rfl, r, _, t2, _, rfl, h2.ra, ht2, fun _ _ _ _ _ _ hk4 => ?_, fun hk4 => ?_⟩
  case refine_2 =>
    refine ((qe ⟨3, t2.place⟩ ?_).mono f2).raise
    rw [hR3, show takeWord "is" (r.at_ (i + 1 + 1)) = _ from take_no ht2 (mt (kw (s := "is") _).mpr hk4)] <;> rfl
  rw [show takeWord "is" (r.at_ (i + 1 + 1)) = _ from take_ok ht2 ((kw (s := "is") _).mp hk4)] at hR3
  have h3 := h2.step ht2 (not_last hk4)
  have f3 := f2.trans (frm_a r H2 (rdO K r (i + 1 + 1 + 1)))
  generalize upd H2 r.a (rdO K r (i + 1 + 1 + 1)) = H3 at h3 f3 ⊢
  generalize hj : i + 1 + 1 + 1 = j at *
  obtain ⟨t3, ht3⟩ := h3.tok_at
  refine ⟨_, rfl, r.a, r.dx, _, rfl, h3.obj, rfl, r, _, t3, _, rfl, h3.ra, ht3, fun p4 _ _ hp4 _ _ hk5 => ?_, fun hk5 => ?_⟩
  case refine_2 =>
    refine ((qe ⟨3, t3.place⟩ ?_).mono f3).raise
    rw [hR3]
    show (takeName (r.at_ j)).bind _ = _
    rw [name_no ht3 hk5] <;> rfl
  obtain ⟨b4, hb4, hbr4⟩ := (kind_name _).mp hk5
  have hR4 : oneWhen ss n d (r.at_ i) = match S.values.findIdx? fun y => y == b4 with
        | none => .error ⟨8, t3.place⟩
        | some k => (takeSign 123 (r.at_ (j + 1))).bind fun r => (takeStmts ss n (d + 1) r).map fun b => (.when_ x k b.1 .done, b.2) := by
    rw [hR3]
    show (takeName (r.at_ j)).bind _ = _
    rw [name_ok ht3 hb4 hbr4] <;> rfl
  clear hR3
  have h4 := h3.step ht3 (not_last hk5)
  have f4 := f3.trans (frm_a r H3 (rdO K r (j + 1)))
  generalize upd H3 r.a (rdO K r (j + 1)) = H4 at h4 f4 ⊢
  obtain ⟨dx4, z4, hP4, hz4⟩ := h4.tok ht3 hp4
  rw [hb4] at hP4 hz4
  have hz4' : z4 = tx b4 := hz4
  subst hz4'
  obtain ⟨dx5, z5, hP5, hz5⟩ := h4.tok ht1 hp2
  rw [hb] at hP5 hz5
  have hz5' : z5 = tx b := hz5
  subst hz5'
  obtain ⟨as4, hdS4, hsets4⟩ := h4.sets
  have hl4 : as4.length = (ss.map fun s => s.name).length := by rw [hsets4.len, List.length_map]
  obtain ⟨pS, hpS, dxS, lw, hS1, hS2⟩ := hsets4.at_ hS
  have hget : valV (kvOf (ss.map fun s => s.name) as4) (Sum.inr (tx b) : Key) = some (.ref pS) := by
    rw [valV_kv b hl4, find_map, show (ss.findIdx? fun x => x.name == b) = some x from hx]
    show (as4[x]?).map V.ref = _
    rw [hpS] <;> rfl
  have hany4 : (S.values.any fun x => x == b4) = (S.values.findIdx? fun y => y == b4).isSome := find_any.symm
  have hDG : DGet H4 r.dS (.str (tx b)) (some (.ref pS)) := by
    rw [← hget]
    exact DGet.k (k := Sum.inr (tx b)) hdS4
  refine ⟨_, rfl, _, rfl, r.a, _, r.dx, _, _, rfl, h4.obj, c_Reader T, n_Reader_settings T, rfl, _, rfl, p2, _, dx5, _, _, rfl, off_le _ _ hP5, c_Token T, n_Token_text T, rfl, r.dS, _, rfl, hDG, pS, _, dxS, _, _, rfl, off_le _ _ hS1, c_Setting T, n_Setting_words T, rfl, ?_⟩
  refine ⟨p4, dx4, lw, _, b4, t3.place, _, rfl, off_le _ _ hP4, .inl (off_le _ _ hS2), fun hc => ?_, fun hc => ?_⟩
  case refine_2 =>
    rw [hany4] at hc
    have hno : (S.values.findIdx? fun y => y == b4) = none := Option.not_isSome_iff_eq_none.mp (by rw [hc]; decide)
    rw [hno] at hR4
    exact ((qe _ hR4).mono f4).raise
  rw [hany4] at hc
  obtain ⟨y, hy⟩ := Option.isSome_iff_exists.mp hc
  obtain ⟨b5, hb5, hbb⟩ := find_get hy
  have hb5' : b5 = b4 := eq_of_beq hbb
  rw [hy] at hR4
  dsimp only at hR4
  have hval : valueT ss x y = b4 := by
    unfold valueT
    rw [hS]
    show (S.values[y]?).getD [] = _
    rw [hb5, hb5'] <;> rfl
  have hset : pieceT ss (.set x) = b := by
    show ((ss[x]?).map fun s => s.name).getD [] = _
    rw [hS, ← hSb] <;> rfl
  have hR5 : oneWhen ss n d (r.at_ i) = ((takeSign 123 (r.at_ (j + 1))).bind fun r => takeStmts ss n (d + 1) r).map fun b => (.when_ x y b.1 .done, b.2) := by
    rw [hR4]
    cases takeSign 123 (r.at_ (j + 1)) <;> rfl
  clear hR4
  refine ⟨_, rfl, p2, _, dx5, _, _, rfl, off_le _ _ hP5, c_Token T, n_Token_text T, rfl, _, rfl, p4, _, dx4, _, _, rfl, off_le _ _ hP4, c_Token T, n_Token_text T, rfl, ?_⟩
  refine ⟨_, rfl, r.a, r.dx, _, rfl, h4.obj, rfl, _, rfl, _, _, rfl, rfl, L, r, j + 1, n, ss, ps, es, cs, rfl, by omega, h4, ?_, fun f e => ?_, fun bd l' e l us H5 i5 f5 h5 el hi5 hl5 hb5 => ?_⟩
  · have := h.hi
    rw [List.length_drop] at hn ⊢
    omega
  · exact (qe f (by rw [hR5, e] <;> rfl)).mono f4
  · rw [e] at hR5
    refine fun xo dxo hxo hdo ne => ⟨xo, dxo, _, _, _, rfl, upd_same, fun H6 g1 g2 => ⟨rfl, ?_⟩⟩
    have s6 := kept hxo hdo g2
    refine q _ _ hR5 _ _ _ (f4.trans (f5.trans (off_same s6))) ?_ el (by omega) ⟨xo, dxo, l, us, [], rfl, ?_, off_same s6 _ _ hl5, hb5.same (off_same s6), rfl⟩
    · rw [show callees (.when_ x y bd .done) = callees bd ++ [] from rfl, List.append_nil]
      exact h5.same s6
    · rw [hset, hval]
      exact off_some.mpr ⟨h5.off_a (fun o e => by rw [hxo] at e; cases e), g1⟩
end
end Vf

set_option Elab.async false
set_option linter.all false
set_option maxRecDepth 100000
set_option maxHeartbeats 4000000
/-! The recursion closed; parts. -/
namespace Vf
open PySem PySem.Spec PyProof.Rows L2
open VakepBase (Bytes PTok Toks RESERVED tokEq PName word taken takeName takeSign takeWord)
open Vakepa (Piece Raw RawPart takeStmts)
section
variable {P : Program} {w : World} {K : PySem.W.Frag} {mg : Str → Option Value} {base : Heap}
/-- a fifth body is never begun -/
theorem no_body (T : Tx K mg) : Df P w K mg base (L2.CX P w) 1 (He.ma K (He.ga K "Reader") "read_body") P_Reader_read_body (sp_read_body 4 K) :=
  dfx_mk (k := 0) (F_Reader_read_body T) sc_Reader_read_body (fun _ _ _ _ _ _ us hl => match us, hl with | [_, _], _ => rfl) (fun vs H Q E h => by obtain ⟨_, _, _, _, _, _, _, _, rfl, _⟩ := h; rfl)
    fun cdv A outer s H vs Q E hr h => by
      obtain ⟨_, _, _, _, _, _, _, _, _, h, _⟩ := h
      exact absurd h (by decide)
theorem ok_body0 (T : Tx K mg) (D_take : Df P w K mg base (L2.CX P w) 3 (He.ma K (He.ga K "Reader") "take") P_Reader_take (sp_take K)) (D_take_if : Df P w K mg base CX0 2 (He.ma K (He.ga K "Reader") "take_if") P_Reader_take_if (sp_take_if K))
    (D_ahead : Df P w K mg base CX0 1 (He.ma K (He.ga K "Reader") "ahead") P_Reader_ahead (sp_ahead K)) (D_say : Df P w K mg base (L2.CX P w) 5 (He.ma K (He.ga K "Reader") "read_say") P_Reader_read_say (spStmt K "say" fun _ l => oneSay l))
    (D_call : Df P w K mg base (L2.CX P w) 5 (He.ma K (He.ga K "Reader") "read_call") P_Reader_read_call (spStmt K "call" fun _ l => oneCall l)) (D_make : Df P w K mg base (L2.CX P w) 5 (He.ma K (He.ga K "Reader") "read_make") P_Reader_read_make (spStmt K "make" oneMake))
    (D_Fault_init : Df P w K mg base CX0 1 (He.ma K (He.ga K "Fault") "__init__") P_Fault_init (spFault (He.ga K "Fault"))) (D_known : Df P w K mg base (L2.CX P w) 3 (He.ga K "check_known") P_check_known (sp_check_known K))
    (D_When_init : Df P w K mg base CX0 1 (He.ma K (He.ga K "When") "__init__") P_When_init (spKeep3 (He.ga K "When") "setting" "word" "body")) :
    Df P w K mg base (L2.CX P w) 16 (He.ma K (He.ga K "Reader") "read_body") P_Reader_read_body (sp_read_body 0 K) := by
  have turn : ∀ k d : Nat, 4 ≤ k → d ≤ 3 → Df P w K mg base (L2.CX P w) k (He.ma K (He.ga K "Reader") "read_body") P_Reader_read_body (sp_read_body (d + 1) K) →
      Df P w K mg base (L2.CX P w) (k + 3) (He.ma K (He.ga K "Reader") "read_body") P_Reader_read_body (sp_read_body d K) := fun k d hk hd D => by
    have e1 := ok_Reader_read_when T D_take D_known D_Fault_init D_When_init hk hd D
    have e2 := ok_Reader_read_statement T D_ahead D_say D_call D_make D_Fault_init (by omega) e1
    exact ok_Reader_read_body T D_take D_take_if (by omega) e2
  have b3 := turn 4 3 (by decide) (by decide) ((no_body T).mono (by decide))
  have b2 := turn 7 2 (by decide) (by decide) b3
  have b1 := turn 10 1 (by decide) (by decide) b2
  exact turn 13 0 (by decide) (by decide) b1
abbrev N_Reader_read_part : List Str := ["self", "opening", "name", "size"]
abbrev P_Reader_read_part : List Str := ["self"]
theorem sc_Reader_read_part : FnScope N_Reader_read_part P_Reader_read_part (defScope s_Reader_read_part) := ⟨rfl, rfl, rfl, by decide +kernel, rfl, by decide +kernel, by decide +kernel⟩
/-- a part, if one begins here -/
def GP (ss : Sets) (ps : List RawPart) (l : Toks) : Except VakepBase.Fault (List RawPart × Toks) := if VakepBase.nextWord "part" l = true then G1 ss ps l else VakepBase.wrong l
def sp_read_part (K : PySem.W.Frag) : Sp := fun vs H Q E => ∃ (L : List Addr) (r : Rd) (i : Nat) (ss : List BSet) (ps : List RawPart) (es : List Bytes) (cs : List PName),
  vs = [.ref r.a] ∧ RS K L H r i ss ps es cs ∧ ps.length ≤ 10 ∧ (∀ f, GP ss ps (r.at_ i) = .error f → Err K r.M H E f) ∧
  (∀ pt l', GP ss ps (r.at_ i) = .ok (ps ++ [pt], l') → ∀ H' i', Same (Off r.M H) (Off r.M H') → RS K L H' r i' ss (ps ++ [pt]) es (cs ++ callees pt.body) → l' = r.at_ i' → i < i' → ps.length + 1 ≤ 10 → Q .non H')
theorem ok_Reader_read_part (T : Tx K mg) (D_Reader_take : Df P w K mg base (L2.CX P w) (3) (He.ma K (He.ga K "Reader") "take") P_Reader_take (sp_take K)) (D_check_room : Df P w K mg base (L2.CX P w) (3) (He.ga K "check_room") P_check_room (sp_check_room K)) (D_Fault_init : Df P w K mg base CX0 (1) (He.ma K (He.ga K "Fault") "__init__") P_Fault_init (spFault (He.ga K "Fault"))) (D_Reader_read_amount : Df P w K mg base (L2.CX P w) (4) (He.ma K (He.ga K "Reader") "read_amount") P_Reader_read_amount (sp_read_amount K)) (D_Part_init : Df P w K mg base CX0 (1) (He.ma K (He.ga K "Part") "__init__") P_Part_init (spKeep3 (He.ga K "Part") "name" "size" "body")) (D_Reader_read_body : Df P w K mg base (L2.CX P w) 16 (He.ma K (He.ga K "Reader") "read_body") P_Reader_read_body (sp_read_body 0 K)) : Df P w K mg base (L2.CX P w) (17) (He.ma K (He.ga K "Reader") "read_part") P_Reader_read_part (sp_read_part K) := by
  refine dfx_mk (F_Reader_read_part T) sc_Reader_read_part (fun _ _ _ _ _ _ us hl => match us, hl with | [_], _ => rfl) (fun vs H Q E h => by obtain ⟨_, _, _, _, _, _, _, rfl, _⟩ := h; rfl) (fun cdv A outer s H vs Q E hr h => ⟨_, (pss_cons (ps_set (i := 1) sc_Reader_read_part.nd rfl (Or.inl rfl) (pmx D_Reader_take (c_Reader T) (m_Reader_take T) (takes_of rfl rfl rfl rfl) hr (pv 0) (pa_cons pe_str pa_nil))) (pss_cons (ps_expr (pfx D_check_room (g_check_room T) (takes_of rfl rfl rfl rfl) hr (pa_cons (pv 1) (pa_cons (pe_fld (pv 0) rfl) (pa_cons (pg (i_MOST_PARTS T)) pa_nil))))) (pss_cons (ps_set (i := 2) sc_Reader_read_part.nd rfl (Or.inl rfl) (pmx D_Reader_take (c_Reader T) (m_Reader_take T) (takes_of rfl rfl rfl rfl) hr (pv 0) (pa_cons (pg (t_NAME T)) pa_nil))) (pss_cons (ps_if (PW.pt (pw_or (pt_cmp (pc_din (hu_of hr) (pe_fld (pv 2) rfl) (pe_fld (pv 0) rfl))) (pw_or1 (pt_cmp (pc_din (hu_of hr) (pe_fld (pv 2) rfl) (pe_fld (pv 0) rfl)))))) (pss_one (ps_raise rfl (takes_of rfl rfl rfl rfl) (pfault D_Fault_init (ecl_of (e_2 T)) (of_decide_eq_true (e_6 T)) (of_decide_eq_true (e_7 T)) (g_Fault T) hr (pa_cons (pg (i_TOLD_BEFORE T)) (pa_cons (pe_fld (pv 2) rfl) pa_nil))))) pss_nil) (pss_cons (ps_expr (pmx D_Reader_take (c_Reader T) (m_Reader_take T) (takes_of rfl rfl rfl rfl) hr (pv 0) (pa_cons pe_str pa_nil))) (pss_cons (ps_set (i := 3) sc_Reader_read_part.nd rfl (Or.inl rfl) (pmx0 D_Reader_read_amount (c_Reader T) (m_Reader_read_amount T) (takes_of rfl rfl rfl rfl) hr (pv 0))) (pss_one (ps_dput (hu_of hr) (pe_fld (pv 0) rfl) (pe_fld (pv 2) rfl) (pk D_Part_init (k_Part T) (g_Part T) hr (pa_cons (pe_fld (pv 2) rfl) (pa_cons (pv 3) (pa_cons (pmx D_Reader_read_body (c_Reader T) (m_Reader_read_body T) (takes_of rfl rfl rfl rfl) hr (pv 0) (pa_cons pe_int pa_nil)) pa_nil)))) rfl)))))))), ?_⟩)
  obtain ⟨L, r, i, ss, ps, es, cs, rfl, h, hp10, qe, q⟩ := h
  obtain ⟨t, ht⟩ := h.tok_at
  have hGP : GP ss ps (r.at_ i) = if tokEq t.tok (.name (word "part")) = true then G1 ss ps (r.at_ i) else .error ⟨3, t.place⟩ := by
    unfold GP VakepBase.nextWord VakepBase.wrong
    rw [next_is ht, here_at ht]
  refine ⟨_, rfl, r.a, r.dx, _, rfl, h.obj, rfl, r, i, t, _, rfl, h.ra, ht, fun p dx z hp hP hz hk => ?_, fun hk => ?_⟩
  case refine_2 =>
    refine (qe ⟨3, t.place⟩ ?_).raise
    rw [hGP, if_neg (mt (kw (s := "part") _).mpr hk)]
  rw [if_pos ((kw (s := "part") _).mp hk)] at hGP
  have h1 := h.step ht (not_last hk)
  have f1 := frm_a r H (rdO K r (i + 1))
  generalize upd H r.a (rdO K r (i + 1)) = H1 at h1 f1 ⊢
  obtain ⟨as, hdP, hparts⟩ := h1.parts
  have hkl : (kvOf (ps.map fun s => s.name) as).length = ps.length := by
    rw [kvOf_len (by rw [hparts.len, List.length_map]), List.length_map]
  obtain ⟨dx1, z1, hP1, -⟩ := h1.tok ht hp
  have hR : GP ss ps (r.at_ i) = if 10 ≤ ps.length then .error ⟨4, t.place⟩ else (takeName (r.at_ (i + 1))).bind fun x => if ps.any (fun p => p.name == x.1.name) = true ∨ ss.any (fun s => s.name == x.1.name) = true then .error ⟨5, x.1.place⟩ else
      (takeWord "size" x.2).bind fun r => (Vakepa.takeNat Vakepa.SIZE r).bind fun k => (takeSign 123 k.2).bind fun r => (takeStmts ss (r.length + 1) 0 r).bind fun b => .ok (ps ++ [⟨x.1.name, k.1, b.1⟩], b.2) := by
    rw [hGP]
    unfold G1
    rw [drop_one ht, here_at ht] <;> rfl
  clear hGP
  refine ⟨_, rfl, _, rfl, r.a, _, r.dx, _, _, rfl, h1.obj, c_Reader T, n_Reader_parts T, rfl, p, dx1, r.dP, _, _, _, ps.length, _, rfl, off_le _ _ hP1, .inr ⟨_, hkl, hdP⟩, fun hn => ?_, fun hn => ?_⟩
  case refine_2 =>
    have hn' : ps.length = 10 := by
      have : (ps.length : Int) = 10 := hn
      omega
    rw [if_pos (by omega)] at hR
    exact ((qe _ hR).mono f1).raise
  have hn' : ps.length ≠ 10 := fun z => hn (by rw [z] <;> rfl)
  rw [if_neg (by omega)] at hR
  obtain ⟨t1, ht1⟩ := h1.tok_at
  refine ⟨_, rfl, r.a, r.dx, _, rfl, h1.obj, rfl, r, _, t1, _, rfl, h1.ra, ht1, fun p2 _ _ hp2 _ _ hk1 => ?_, fun hk1 => ?_⟩
  case refine_2 =>
    refine ((qe ⟨3, t1.place⟩ ?_).mono f1).raise
    rw [hR, name_no ht1 hk1] <;> rfl
  obtain ⟨b, hb, hbr⟩ := (kind_name _).mp hk1
  rw [name_ok ht1 hb hbr] at hR
  have h2 := h1.step ht1 (not_last hk1)
  have f2 := f1.trans (frm_a r H1 (rdO K r (i + 1 + 1)))
  generalize upd H1 r.a (rdO K r (i + 1 + 1)) = H2 at h2 f2 ⊢
  obtain ⟨dx2, z2, hP2, hz2⟩ := h2.tok ht1 hp2
  rw [hb] at hP2 hz2
  have hz2' : z2 = tx b := hz2
  subst hz2'
  have hP2' := off_le _ _ hP2
  obtain ⟨as2, hdS2, hsets2⟩ := h2.sets
  have hl2 : as2.length = (ss.map fun s => s.name).length := by rw [hsets2.len, List.length_map]
  have hany : (valV (kvOf (ss.map fun s => s.name) as2) (Sum.inr (tx b) : Key)).isSome = ss.any fun s => s.name == b := by
    rw [some_kv b hl2, List.any_map] <;> rfl
  obtain ⟨as3, hdP2, hparts2⟩ := h2.parts
  have hl3 : as3.length = (ps.map fun s => s.name).length := by rw [hparts2.len, List.length_map]
  have hanyP : (valV (kvOf (ps.map fun s => s.name) as3) (Sum.inr (tx b) : Key)).isSome = ps.any fun s => s.name == b := by
    rw [some_kv b hl3, List.any_map] <;> rfl
  have bad : (ps.any (fun s => s.name == b) = true ∨ ss.any (fun s => s.name == b) = true) → ∀ d, H2 d = none → E (.ref (He.ga K "Fault")) (some d) (upd H2 d (.xd [("place", .int t1.place), ("code", .int 5)])) := fun z => by
    refine ((qe ⟨5, t1.place⟩ ?_).mono f2).raise
    rw [hR]
    show (if ps.any (fun s => s.name == b) = true ∨ ss.any (fun s => s.name == b) = true then _ else _) = _
    rw [if_pos z]
  refine ⟨_, rfl, p2, _, dx2, _, _, rfl, hP2', c_Token T, n_Token_text T, rfl, _, rfl, r.a, _, r.dx, _, _, rfl, h2.obj, c_Reader T, n_Reader_settings T, rfl, r.dS, _, rfl, DGet.k (k := Sum.inr (tx b)) hdS2, _, rfl, ?_⟩
  rw [hany]
  refine iteB (fun hc => ?_) (fun hc => ?_)
  · refine ⟨_, rfl, p2, _, dx2, _, _, rfl, hP2', c_Token T, n_Token_place T, rfl, born (bad (.inr hc))⟩
  refine ⟨_, rfl, p2, _, dx2, _, _, rfl, hP2', c_Token T, n_Token_text T, rfl, _, rfl, r.a, _, r.dx, _, _, rfl, h2.obj, c_Reader T, n_Reader_parts T, rfl, r.dP, _, rfl, DGet.k (k := Sum.inr (tx b)) hdP2, _, rfl, ?_⟩
  rw [hanyP]
  refine iteB (fun hc2 => ?_) (fun hc2 => ?_)
  · refine ⟨_, rfl, p2, _, dx2, _, _, rfl, hP2', c_Token T, n_Token_place T, rfl, born (bad (.inl hc2))⟩
  clear bad
  have hR2 : GP ss ps (r.at_ i) = (takeWord "size" (r.at_ (i + 1 + 1))).bind fun r => (Vakepa.takeNat Vakepa.SIZE r).bind fun k => (takeSign 123 k.2).bind fun r => (takeStmts ss (r.length + 1) 0 r).bind fun x => .ok (ps ++ [(⟨b, k.1, x.1⟩ : RawPart)], x.2) := by
    rw [hR]
    show (if ps.any (fun s => s.name == b) = true ∨ ss.any (fun s => s.name == b) = true then _ else _) = _
    rw [if_neg (by rw [hc, hc2]; decide)]
  clear hR
  obtain ⟨t2, ht2⟩ := h2.tok_at
  refine ⟨_, rfl, r.a, r.dx, _, rfl, h2.obj, rfl, r, _, t2, _, rfl, h2.ra, ht2, fun _ _ _ _ _ _ hk2 => ?_, fun hk2 => ?_⟩
  case refine_2 =>
    refine ((qe ⟨3, t2.place⟩ ?_).mono f2).raise
    rw [hR2, show takeWord "size" (r.at_ (i + 1 + 1)) = _ from take_no ht2 (mt (kw (s := "size") _).mpr hk2)] <;> rfl
  rw [show takeWord "size" (r.at_ (i + 1 + 1)) = _ from take_ok ht2 ((kw (s := "size") _).mp hk2)] at hR2
  have h3 := h2.step ht2 (not_last hk2)
  have f3 := f2.trans (frm_a r H2 (rdO K r (i + 1 + 1 + 1)))
  generalize upd H2 r.a (rdO K r (i + 1 + 1 + 1)) = H3 at h3 f3 ⊢
  generalize hj : i + 1 + 1 + 1 = j at *
  have hR3 : GP ss ps (r.at_ i) = (Vakepa.takeNat Vakepa.SIZE (r.at_ j)).bind fun k => (takeSign 123 k.2).bind fun r => (takeStmts ss (r.length + 1) 0 r).bind fun x => .ok (ps ++ [(⟨b, k.1, x.1⟩ : RawPart)], x.2) := hR2
  clear hR2
  obtain ⟨t3, ht3⟩ := h3.tok_at
  refine ⟨_, rfl, r.a, r.dx, _, rfl, h3.obj, rfl, r, j, t3, rfl, h3.ra, ht3, fun f e => ?_, fun n e hn3 => ?_⟩
  · exact (qe f (by rw [hR3, e] <;> rfl)).mono f3
  rw [e] at hR3
  have h4 := h3.step ht3 hn3
  have f4 := f3.trans (frm_a r H3 (rdO K r (j + 1)))
  generalize upd H3 r.a (rdO K r (j + 1)) = H4 at h4 f4 ⊢
  have hR4 : GP ss ps (r.at_ i) = ((takeSign 123 (r.at_ (j + 1))).bind fun r => takeStmts ss (r.length + 1) 0 r).bind fun x => .ok (ps ++ [(⟨b, n, x.1⟩ : RawPart)], x.2) := by
    rw [hR3, bind_assoc] <;> rfl
  clear hR3
  obtain ⟨dx4, z4, hP4, hz4⟩ := h4.tok ht1 hp2
  rw [hb] at hP4 hz4
  have hz4' : z4 = tx b := hz4
  subst hz4'
  -- the specification's fuel is the rest's length
  have hfuel : ((takeSign 123 (r.at_ (j + 1))).bind fun r => takeStmts ss (r.length + 1) 0 r) = (takeSign 123 (r.at_ (j + 1))).bind fun l => takeStmts ss ((r.at_ (j + 1 + 1)).length + 1) 0 l := by
    obtain ⟨t4, ht4⟩ := h4.tok_at
    by_cases e : tokEq t4.tok (.sign 123) = true
    · rw [show takeSign 123 (r.at_ (j + 1)) = _ from take_ok ht4 e] <;> rfl
    · rw [show takeSign 123 (r.at_ (j + 1)) = _ from take_no ht4 e] <;> rfl
  rw [hfuel] at hR4
  refine ⟨_, rfl, p2, _, dx4, _, _, rfl, off_le _ _ hP4, c_Token T, n_Token_text T, rfl, _, rfl, _, rfl, r.a, r.dx, _, rfl, h4.obj, rfl, L, r, j + 1, _, ss, ps, es, cs, rfl, by decide, h4, Nat.lt_succ_self _, fun f e => ?_, fun bd l' e l us H5 i5 f5 h5 el hi5 hl5 hb5 => ?_⟩
  · exact (qe f (by rw [hR4, e] <;> rfl)).mono f4
  · rw [e] at hR4
    refine fun xo dxo hxo hdo ne => ⟨xo, dxo, _, _, _, rfl, upd_same, fun H6 g1 g2 => ⟨rfl, ?_⟩⟩
    have s6 := kept hxo hdo g2
    have h6 := h5.same s6
    obtain ⟨as6, hdP6, hparts6⟩ := h6.parts
    have hl6 : as6.length = (ps.map fun s => s.name).length := by rw [hparts6.len, List.length_map]
    obtain ⟨dx6, z6, hP6, hz6⟩ := h6.tok ht1 hp2
    rw [hb] at hP6 hz6
    have hz6' : z6 = tx b := hz6
    subst hz6'
    refine ⟨_, rfl, r.a, _, r.dx, _, _, rfl, h6.obj, c_Reader T, n_Reader_parts T, rfl, _, rfl, p2, _, dx6, _, _, rfl, off_le _ _ hP6, c_Token T, n_Token_text T, rfl, r.dP, _, rfl, DPut.k (k := Sum.inr (tx b)) hdP6 ?_, ?_⟩
    · rw [kvOf_len hl6, List.length_map]
      exact Nat.lt_of_le_of_lt hp10 (by decide)
    · refine q ⟨b, n, bd⟩ _ hR4 _ _ (f4.trans (f5.trans ((off_same s6).trans (frm_m (by simp [Rd.M]))))) (h6.addPart (s := ⟨b, n, bd⟩) hdP6 ⟨dxo, l, us, off_some.mpr ⟨h5.off_a (fun o e => by rw [hxo] at e; cases e), g1⟩, off_same s6 _ _ hl5, hb5.same (off_same s6)⟩ hc2) el (by omega) (by omega)
end
end Vf

set_option Elab.async false
set_option linter.all false
set_option maxRecDepth 100000
set_option maxHeartbeats 4000000
/-! list(d.values()) of a dict. -/
namespace Vf
open PySem PySem.Spec PyProof.Rows L2
section
variable {X : Cx} {e : Expr} {te : TE} {p apos cpos pos : Pos}
/-- list(e.values()) -/
def tListVals (te : TE) : TE := fun σ H Q => te σ H fun x H1 => ∃ (d : Addr) (kvs : List (Key × V)), x = .ref d ∧ H1 d = some (.dK kvs) ∧ ∀ q, H1 q = none → Q (.ref q) (upd H1 q (.lst (kvs.map fun kv => kv.2)))
theorem pe_listValues (hc : X.calm = true) (he : PE X e te) (hg : Gl X "list") (hm : X.mg "list" = none) (hv : bootBuiltins "list" = some (.type "list")) (hbase : attributeBase e "values" X.env (eval e X.env) = eval e X.env := by rfl) (hline : (apos.endLine == cpos.line) = true := by rfl)
    (hs : starEach [.Call (.Attribute e "values" apos) [] [] cpos] X.env = (false, eval (.Call (.Attribute e "values" apos) [] [] cpos) X.env) :: starEach [] X.env := by rfl) :
    PE X (.Call (.Name "list" p) [.Call (.Attribute e "values" apos) [] [] cpos] [] pos) (tListVals te) := by
  refine ⟨fun pins s σ H Q I hq => ?_⟩
  refine wpAny_Call_Name_kw (ld_blt I hg hm hv ?_)
  refine PyProof.Rows.callWith_type1 ?_ hs rfl
  rw [hs]
  show wpAny _ _ (spliced ((false, eval (.Call (.Attribute e "values" apos) [] [] cpos) X.env) :: backTo pos (starEach [] X.env))) _ _ s
  refine Calls.spliced_cons ?_
  refine wpAny_Call_method (T := "dict") (id := "dict.values") hbase rfl hline F.plainAttrs_dict F.slot_dict_values F.type_dict_values (thn (he.run pins s σ H _ I hq) fun u s1 ⟨x, H1, I1, rx, d, kvs, ex, hd, q⟩ => ?_)
  subst ex
  obtain rfl : u = Value.ref d := rx
  obtain ⟨hz, hs0, vs, kv, hdo⟩ := I1.hok d _ hd
  obtain ⟨ep, hat⟩ := hdo.dictAt
  have lk : kvs.length = vs.length := Paired.length kv
  have I2 : Inv X pins σ H1 { s1 with heap := s1.heap.push { cls := .type "dict_values", data := .fields #[.ref d] } } := I1.kept (t' := s1.toks) fun b ob q => Heap.get?_push_of_some _ q
  refine ⟨hdo.typeIs, hdo.mapOf.noDict, ?_⟩
  show wpAny _ _ (callWith cpos (.builtin "dict.values") [.ref d] [] []) _ X.xe s1
  refine method_meetsIn F.slot_dict_values F.entry_dict_values rfl (PySem.evalArgs_none ⟨rfl, hdo.typeIs, F.args_dict_values_1 _, _, meets_dict_values (mixKind X.prog X.w) d hs0, ⟨vs, hdo⟩, ?_⟩)
  refine Calls.spliced_nil ?_
  refine PySem.W.kdl_call (PySem.W.kdl_values (knd := mixKind X.prog X.w) (kvs := vs) (ep := ep) (d := d) (r := s1.heap.objs.size)) (I1.ok.hd hc) ⟨⟨_, Heap.get?_push_size _ rfl, rfl, rfl⟩, hat.push _⟩ (by rw [← lk]; exact hz) fun h' tk acc' c' hkeep hS hacc => ?_
  refine ⟨.ref _, upd H1 _ (.lst (kvs.map fun kv => kv.2)), I2.laid hkeep (Nat.le_refl _) (show ObjOk X.prog X.w _ _ _ (.lst (kvs.map fun kv => kv.2)) from ⟨?_, acc'.toList, c', ?_, ?_⟩), rfl, q _ (I2.hok.fresh (Nat.le_refl _))⟩
  · rw [List.length_map]
    exact hz
  · have el : acc'.toList.length = acc'.size := by simp
    refine vals_of_at (by rw [List.length_map, el, hacc.1, lk]) fun j x w' h1 h2 => ?_
    obtain ⟨k, hky⟩ := hacc.2 j w' (by rw [← Array.getElem?_toList]; exact h2)
    rw [List.getElem?_map] at h1
    obtain ⟨pk, e1, e2⟩ := Option.map_eq_some_iff.mp h1
    obtain ⟨qv, g1, g2, g3⟩ := LiI.paired_get kv e1
    rw [hky] at g1
    cases g1
    rw [← e2]
    exact g3
  · rw [Array.toArray_toList]
    exact hS
end
end Vf

set_option Elab.async false
set_option linter.all false
set_option maxRecDepth 100000
set_option maxHeartbeats 4000000
/-! Entries, and the names that are called. -/
namespace Vf
open PySem PySem.Spec PyProof.Rows L2
open VakepBase (Bytes PTok Toks RESERVED tokEq PName word taken takeName takeSign takeWord)
open Vakepa (Piece Raw RawPart)
section
variable {P : Program} {w : World} {K : PySem.W.Frag} {mg : Str → Option Value} {base : Heap}
abbrev N_Reader_read_entry : List Str := ["self", "entry"]
abbrev P_Reader_read_entry : List Str := ["self"]
theorem sc_Reader_read_entry : FnScope N_Reader_read_entry P_Reader_read_entry (defScope s_Reader_read_entry) := ⟨rfl, rfl, rfl, by decide +kernel, rfl, by decide +kernel, by decide +kernel⟩
def pn (ps : List RawPart) : List Bytes := ps.map fun s => s.name
def sp_read_entry (K : PySem.W.Frag) : Sp := fun vs H Q E => ∃ (L : List Addr) (r : Rd) (i : Nat) (ss : List BSet) (ps : List RawPart) (es : List Nat) (cs : List PName),
  vs = [.ref r.a] ∧ RS K L H r i ss ps (es.map (nm (pn ps))) cs ∧ (pn ps).Nodup ∧ (∀ k ∈ es, k < (pn ps).length) ∧ es.length ≤ 4 ∧ (∀ f, E1 (pn ps) es (r.at_ i) = .error f → Err K r.M H E f) ∧
  (∀ es' l', E1 (pn ps) es (r.at_ i) = .ok (es', l') → ∀ H', Same (Off r.M H) (Off r.M H') → RS K L H' r (i + 1) ss ps (es'.map (nm (pn ps))) cs → l' = r.at_ (i + 1) → (∀ k ∈ es', k < (pn ps).length) → es'.length ≤ 4 → Q .non H')
theorem ok_Reader_read_entry (T : Tx K mg) (D_Reader_take : Df P w K mg base (L2.CX P w) (3) (He.ma K (He.ga K "Reader") "take") P_Reader_take (sp_take K)) (D_check_room : Df P w K mg base (L2.CX P w) (3) (He.ga K "check_room") P_check_room (sp_check_room K)) (D_Fault_init : Df P w K mg base CX0 (1) (He.ma K (He.ga K "Fault") "__init__") P_Fault_init (spFault (He.ga K "Fault"))) (D_check_known : Df P w K mg base (L2.CX P w) (3) (He.ga K "check_known") P_check_known (sp_check_known K)) : Df P w K mg base (L2.CX P w) (4) (He.ma K (He.ga K "Reader") "read_entry") P_Reader_read_entry (sp_read_entry K) := by
  refine dfx_mk (F_Reader_read_entry T) sc_Reader_read_entry (fun _ _ _ _ _ _ us hl => match us, hl with | [_], _ => rfl) (fun vs H Q E h => by obtain ⟨_, _, _, _, _, _, _, rfl, _⟩ := h; rfl) (fun cdv A outer s H vs Q E hr h => ⟨_, (pss_cons (ps_set (i := 1) sc_Reader_read_entry.nd rfl (Or.inl rfl) (pmx D_Reader_take (c_Reader T) (m_Reader_take T) (takes_of rfl rfl rfl rfl) hr (pv 0) (pa_cons (pg (t_NAME T)) pa_nil))) (pss_cons (ps_expr (pfx D_check_room (g_check_room T) (takes_of rfl rfl rfl rfl) hr (pa_cons (pv 1) (pa_cons (pe_fld (pv 0) rfl) (pa_cons (pg (i_MOST_ENTRIES T)) pa_nil))))) (pss_cons (ps_if (pt_cmpR op_in_seq (pe_fld (pv 1) rfl) (pe_fld (pv 0) rfl) (by rfl)) (pss_one (ps_raise rfl (takes_of rfl rfl rfl rfl) (pfault D_Fault_init (ecl_of (e_2 T)) (of_decide_eq_true (e_6 T)) (of_decide_eq_true (e_7 T)) (g_Fault T) hr (pa_cons (pg (i_ENTRY_TOLD_BEFORE T)) (pa_cons (pe_fld (pv 1) rfl) pa_nil))))) pss_nil) (pss_cons (ps_expr (pfx D_check_known (g_check_known T) (takes_of rfl rfl rfl rfl) hr (pa_cons (pv 1) (pa_cons (pe_fld (pv 0) rfl) pa_nil)))) (pss_one (ps_expr (pe_bm PySem.F.plainAttrs_list PySem.F.slot_list_append PySem.F.type_list_append mt_append (pe_fld (pv 0) rfl) (pa_cons (pe_fld (pv 1) rfl) pa_nil)))))))), ?_⟩)
  obtain ⟨L, r, i, ss, ps, es, cs, rfl, h, hnd, hes, he4, qe, q⟩ := h
  obtain ⟨t, ht⟩ := h.tok_at
  refine ⟨_, rfl, r.a, r.dx, _, rfl, h.obj, rfl, r, i, t, _, rfl, h.ra, ht, fun p dx z hp hP hz hk => ?_, fun hk => ?_⟩
  case refine_2 =>
    refine (qe ⟨3, t.place⟩ ?_).raise
    unfold E1
    rw [name_no ht hk] <;> rfl
  obtain ⟨b, hb, hbr⟩ := (kind_name _).mp hk
  have hR : E1 (pn ps) es (r.at_ i) = if 4 ≤ es.length then .error ⟨4, t.place⟩ else match (pn ps).findIdx? fun y => y == b with
      | none => .error ⟨8, t.place⟩
      | some k => if es.contains k = true then .error ⟨6, t.place⟩ else .ok (es ++ [k], r.at_ (i + 1)) := by
    unfold E1
    rw [name_ok ht hb hbr] <;> rfl
  have h1 := h.step ht (not_last hk)
  have f1 := frm_a r H (rdO K r (i + 1))
  generalize upd H r.a (rdO K r (i + 1)) = H1 at h1 f1 ⊢
  obtain ⟨dx1, z1, hP1, hz1⟩ := h1.tok ht hp
  rw [hb] at hP1 hz1
  have hz1' : z1 = tx b := hz1
  subst hz1'
  have hP1' := off_le _ _ hP1
  have hE := h1.ents
  have hln : ((es.map (nm (pn ps))).map sv).length = es.length := by rw [List.length_map, List.length_map]
  refine ⟨_, rfl, _, rfl, r.a, _, r.dx, _, _, rfl, h1.obj, c_Reader T, n_Reader_entries T, rfl, p, dx1, r.lE, _, _, _, es.length, _, rfl, hP1', .inl ⟨_, hln, hE⟩, fun hn => ?_, fun hn => ?_⟩
  case refine_2 =>
    have hn' : es.length = 4 := by
      have : (es.length : Int) = 4 := hn
      omega
    rw [if_pos (by omega)] at hR
    exact ((qe _ hR).mono f1).raise
  have hn' : es.length ≠ 4 := fun z => hn (by rw [z] <;> rfl)
  rw [if_neg (by omega)] at hR
  refine ⟨_, rfl, p, _, dx1, _, _, rfl, hP1', c_Token T, n_Token_text T, rfl, _, rfl, r.a, _, r.dx, _, _, rfl, h1.obj, c_Reader T, n_Reader_entries T, rfl, r.lE, _, rfl, .inl (SqL.of hE), rfl, flat_names _, _, rfl, ?_⟩
  refine iteB (fun hc => ?_) (fun hc => ?_)
  · have hc' : ((es.map (nm (pn ps))).any fun x => x == b) = true := by
      rw [← names_in]
      exact hc
    refine ⟨_, rfl, p, _, dx1, _, _, rfl, hP1', c_Token T, n_Token_place T, rfl, born ?_⟩
    cases hf : (pn ps).findIdx? fun y => y == b with
    | none =>
      rw [ents_unknown hes b hf] at hc'
      cases hc'
    | some k =>
      rw [ents_any hnd hes b hf] at hc'
      rw [hf] at hR
      dsimp only at hR
      rw [if_pos hc'] at hR
      exact ((qe _ hR).mono f1).raise
  · have hc' : ((es.map (nm (pn ps))).any fun x => x == b) = false := by
      rw [← names_in]
      exact hc
    obtain ⟨as, hdP, hparts⟩ := h1.parts
    have hl : as.length = (pn ps).length := by
      unfold pn
      rw [hparts.len, List.length_map]
    refine ⟨_, rfl, _, rfl, r.a, _, r.dx, _, _, rfl, h1.obj, c_Reader T, n_Reader_parts T, rfl, p, dx1, r.dP, _, b, t.place, pn ps, rfl, hP1', .inr ⟨as, hl, hdP⟩, fun hk2 => ?_, fun hk2 => ?_⟩
    case refine_2 =>
      rw [findIdx_none.mpr hk2] at hR
      exact ((qe _ hR).mono f1).raise
    cases hf : (pn ps).findIdx? fun y => y == b with
    | none =>
      rw [findIdx_none.mp hf] at hk2
      cases hk2
    | some k =>
      rw [ents_any hnd hes b hf] at hc'
      rw [hf] at hR
      dsimp only at hR
      rw [if_neg (by rw [hc']; decide)] at hR
      obtain ⟨x, hx, hxb⟩ := find_get hf
      have hkl : k < (pn ps).length := (List.getElem?_eq_some_iff.mp hx).1
      have hnk : nm (pn ps) k = b := by
        unfold nm
        rw [hx]
        exact eq_of_beq hxb
      refine ⟨_, rfl, r.a, _, r.dx, _, _, rfl, h1.obj, c_Reader T, n_Reader_entries T, rfl, .inl ⟨rfl, _, SqL.of hE⟩, _, rfl, p, _, dx1, _, _, rfl, hP1', c_Token T, n_Token_text T, rfl, r.lE, _, _, rfl, rfl, hE, ?_, ?_⟩
      · rw [hln]
        exact Nat.lt_of_le_of_lt he4 (by decide)
      · refine q _ _ hR _ (f1.trans (frm_m (by simp [Rd.M]))) ?_ rfl (fun j hj => ?_) (by rw [List.length_append]; show es.length + 1 ≤ 4; omega)
        · rw [List.map_append]
          show RS K L _ r (i + 1) ss ps (es.map (nm (pn ps)) ++ [nm (pn ps) k]) cs
          rw [hnk]
          exact h1.addEnt b
        · rcases List.mem_append.mp hj with hj | hj
          · exact hes j hj
          · rw [List.mem_singleton.mp hj]
            exact hkl
abbrev N_Reader_read_start : List Str := ["self"]
abbrev P_Reader_read_start : List Str := ["self"]
theorem sc_Reader_read_start : FnScope N_Reader_read_start P_Reader_read_start (defScope s_Reader_read_start) := ⟨rfl, rfl, rfl, by decide +kernel, rfl, by decide +kernel, by decide +kernel⟩
def St (names : List Bytes) (n : Nat) (l : Toks) : Except VakepBase.Fault (List Nat × Toks) := (takeWord "start" l).bind fun r => takeStartsG names n [] r
def sTail (names : List Bytes) (n : Nat) (y : List Nat × Toks) : Except VakepBase.Fault (List Nat × Toks) := if VakepBase.next (.sign 44) y.2 = true then takeStartsG names n y.1 (y.2.drop 1) else (takeSign 59 y.2).map fun m => (y.1, m)
def sp_read_start (K : PySem.W.Frag) : Sp := fun vs H Q E => ∃ (L : List Addr) (r : Rd) (i n : Nat) (ss : List BSet) (ps : List RawPart) (cs : List PName),
  vs = [.ref r.a] ∧ RS K L H r i ss ps [] cs ∧ (pn ps).Nodup ∧ (r.at_ (i + 1)).length < n ∧ (∀ f, St (pn ps) n (r.at_ i) = .error f → Err K r.M H E f) ∧
  (∀ es' l', St (pn ps) n (r.at_ i) = .ok (es', l') → ∀ H' i', Same (Off r.M H) (Off r.M H') → RS K L H' r i' ss ps (es'.map (nm (pn ps))) cs → l' = r.at_ i' → i < i' → (∀ k ∈ es', k < (pn ps).length) → es'.length ≤ 4 → Q .non H')
theorem ok_Reader_read_start (T : Tx K mg) (D_Reader_take : Df P w K mg base (L2.CX P w) (3) (He.ma K (He.ga K "Reader") "take") P_Reader_take (sp_take K)) (D_Reader_take_if : Df P w K mg base CX0 (2) (He.ma K (He.ga K "Reader") "take_if") P_Reader_take_if (sp_take_if K)) (D_Reader_read_entry : Df P w K mg base (L2.CX P w) (4) (He.ma K (He.ga K "Reader") "read_entry") P_Reader_read_entry (sp_read_entry K)) : Df P w K mg base (L2.CX P w) (5) (He.ma K (He.ga K "Reader") "read_start") P_Reader_read_start (sp_read_start K) := by
  refine dfx_mk (F_Reader_read_start T) sc_Reader_read_start (fun _ _ _ _ _ _ us hl => match us, hl with | [_], _ => rfl) (fun vs H Q E h => by obtain ⟨_, _, _, _, _, _, _, rfl, _⟩ := h; rfl) (fun cdv A outer s H vs Q E hr h => ⟨_, (pss_cons (ps_expr (pmx D_Reader_take (c_Reader T) (m_Reader_take T) (takes_of rfl rfl rfl rfl) hr (pv 0) (pa_cons pe_str pa_nil))) (pss_cons (ps_expr (pmx0 D_Reader_read_entry (c_Reader T) (m_Reader_read_entry T) (takes_of rfl rfl rfl rfl) hr (pv 0))) (pss_cons (ps_while (passes_of rfl) (pt_val (pm D_Reader_take_if (c_Reader T) (m_Reader_take_if T)  hr (pv 0) (pa_cons pe_str pa_nil))) (pss_one (ps_expr (pmx0 D_Reader_read_entry (c_Reader T) (m_Reader_read_entry T) (takes_of rfl rfl rfl rfl) hr (pv 0))))) (pss_one (ps_expr (pmx D_Reader_take (c_Reader T) (m_Reader_take T) (takes_of rfl rfl rfl rfl) hr (pv 0) (pa_cons pe_str pa_nil))))))), ?_⟩)
  obtain ⟨L, r, i, n, ss, ps, cs, rfl, h, hnd, hn, qe, q⟩ := h
  obtain ⟨t, ht⟩ := h.tok_at
  refine ⟨_, rfl, r.a, r.dx, _, rfl, h.obj, rfl, r, i, t, _, rfl, h.ra, ht, fun p dx z hp hP hz hk => ?_, fun hk => ?_⟩
  case refine_2 =>
    refine (qe ⟨3, t.place⟩ ?_).raise
    unfold St
    rw [show takeWord "start" (r.at_ i) = _ from take_no ht (mt (kw (s := "start") _).mpr hk)] <;> rfl
  have h1 := h.step ht (not_last hk)
  have f1 := frm_a r H (rdO K r (i + 1))
  generalize upd H r.a (rdO K r (i + 1)) = H1 at h1 f1 ⊢
  obtain ⟨n', rfl⟩ : ∃ n', n = n' + 1 := ⟨n - 1, by omega⟩
  have hR : St (pn ps) (n' + 1) (r.at_ i) = (E1 (pn ps) [] (r.at_ (i + 1))).bind (sTail (pn ps) n') := by
    unfold St
    rw [show takeWord "start" (r.at_ i) = _ from take_ok ht ((kw (s := "start") _).mp hk)] <;> rfl
  generalize St (pn ps) (n' + 1) (r.at_ i) = R at qe q hR
  refine ⟨_, rfl, r.a, r.dx, _, rfl, h1.obj, rfl, L, r, i + 1, ss, ps, [], cs, rfl, h1, hnd, (fun k hk => nomatch hk), by decide, fun f e => ?_, fun es l' e H2 f2 h2 el hes he4 => ?_⟩
  · exact (qe f (by rw [hR, e] <;> rfl)).mono f1
  rw [e, el] at hR
  have hlen : (r.at_ (i + 1 + 1)).length < n' := by
    have := h1.hi
    rw [List.length_drop] at hn ⊢
    omega
  refine ⟨fun m σ H' => ∃ i' es n', m = r.toks.length - i' ∧ σ = [some (.ref r.a)] ∧ RS K L H' r i' ss ps (es.map (nm (pn ps))) cs ∧ Same (Off r.M H) (Off r.M H') ∧ (∀ k ∈ es, k < (pn ps).length) ∧ es.length ≤ 4 ∧ i < i' ∧ (r.at_ i').length < n' ∧
      R = sTail (pn ps) n' (es, r.at_ i'), ⟨_, i + 1 + 1, es, n', rfl, rfl, h2, f1.trans f2, hes, he4, by omega, hlen, hR⟩, ?_⟩
  clear hlen hR e el l' hes he4 h2 f2 hn
  rintro m σ H4 ⟨i', es, n', rfl, rfl, h4, f4, hes, he4, hi4, hn4, hR⟩
  obtain ⟨t4, ht4⟩ := h4.tok_at
  have hRt : sTail (pn ps) n' (es, r.at_ i') = if tokEq t4.tok (.sign 44) = true then takeStartsG (pn ps) n' es (r.at_ (i' + 1)) else (takeSign 59 (r.at_ i')).map fun m => (es, m) := by
    show (if VakepBase.next (.sign 44) (r.at_ i') = true then takeStartsG (pn ps) n' es ((r.at_ i').drop 1) else _) = _
    rw [next_is ht4, drop_one ht4]
  refine ⟨_, rfl, r.a, r.dx, _, rfl, h4.obj, rfl, r, i', t4, _, rfl, h4.ra, ht4, fun hk4 => ?_, fun hk4 => ?_⟩
  · have h5 := h4.step ht4 (not_last hk4)
    have f5 := f4.trans (frm_a r H4 (rdO K r (i' + 1)))
    generalize upd H4 r.a (rdO K r (i' + 1)) = H5 at h5 f5 ⊢
    rw [if_pos ((ks 44 _).mp hk4)] at hRt
    obtain ⟨n'', rfl⟩ : ∃ n'', n' = n'' + 1 := ⟨n' - 1, by omega⟩
    rw [hRt] at hR
    have hR' : R = (E1 (pn ps) es (r.at_ (i' + 1))).bind (sTail (pn ps) n'') := hR
    refine ⟨_, rfl, ?_⟩
    refine ⟨fun σ' H' => ∃ i'' es, i' < i'' ∧ σ' = [some (.ref r.a)] ∧ RS K L H' r i'' ss ps (es.map (nm (pn ps))) cs ∧ Same (Off r.M H) (Off r.M H') ∧ (∀ k ∈ es, k < (pn ps).length) ∧ es.length ≤ 4 ∧ (r.at_ i'').length < n'' ∧
      R = sTail (pn ps) n'' (es, r.at_ i''), ?_, ?_⟩
    · rintro σ' H' ⟨i'', es, k1, k2, k3, k4, k5, k6, k7, k8⟩
      exact ⟨_, by have := h4.hi; omega, i'', es, n'', rfl, k2, k3, k4, k5, k6, by omega, k7, k8⟩
    refine ⟨_, rfl, r.a, r.dx, _, rfl, h5.obj, rfl, L, r, i' + 1, ss, ps, es, cs, rfl, h5, hnd, hes, he4, fun f e => ?_, fun es6 l' e H6 f6 h6 el hes6 he6 => ?_⟩
    · exact (qe f (by rw [hR', e] <;> rfl)).mono f5
    · rw [e, el] at hR'
      refine ⟨i' + 1 + 1, es6, by omega, rfl, h6, f5.trans f6, hes6, he6, ?_, hR'⟩
      have := h5.hi
      have := h6.hi
      rw [List.length_drop] at hn4 ⊢
      omega
  · rw [if_neg (mt (ks 44 _).mpr hk4)] at hRt
    rw [hRt] at hR
    refine ⟨_, rfl, ?_⟩
    refine ⟨_, rfl, r.a, r.dx, _, rfl, h4.obj, rfl, r, i', t4, _, rfl, h4.ra, ht4, fun _ _ _ _ _ _ hk5 => ?_, fun hk5 => ?_⟩
    case refine_2 =>
      refine ((qe ⟨3, t4.place⟩ ?_).mono f4).raise
      rw [hR, show takeSign 59 (r.at_ i') = _ from take_no ht4 (mt (ks 59 _).mpr hk5)] <;> rfl
    have h5 := h4.step ht4 (not_last hk5)
    have f5 := f4.trans (frm_a r H4 (rdO K r (i' + 1)))
    generalize upd H4 r.a (rdO K r (i' + 1)) = H5 at h5 f5 ⊢
    have hO : R = .ok (es, r.at_ (i' + 1)) := by
      rw [hR, show takeSign 59 (r.at_ i') = _ from take_ok ht4 ((ks 59 _).mp hk5)] <;> rfl
    exact q _ _ hO _ _ f5 h5 rfl (by omega) hes he4
abbrev N_Reader_check_callees : List Str := ["self", "name"]
abbrev P_Reader_check_callees : List Str := ["self"]
theorem sc_Reader_check_callees : FnScope N_Reader_check_callees P_Reader_check_callees (defScope s_Reader_check_callees) := ⟨rfl, rfl, rfl, by decide +kernel, rfl, by decide +kernel, by decide +kernel⟩
def sp_check_callees (K : PySem.W.Frag) : Sp := fun vs H Q E => ∃ (r : Rd) (i : Nat) (names : List Bytes) (cs : List PName) (as bs : List Addr),
  vs = [.ref r.a] ∧ H r.a = some (rdO K r i) ∧ H r.lC = some (.lst (as.map V.ref)) ∧ AtAll (CallAt K H) as cs ∧ H r.dP = some (.dK (kvOf names bs)) ∧ bs.length = names.length ∧
  (∀ c, cs.find? (lostName names) = some c → Err K r.M H E ⟨9, c.place⟩) ∧ (cs.find? (lostName names) = none → Q .non H)
theorem ok_Reader_check_callees (T : Tx K mg) (D_Fault_init : Df P w K mg base CX0 (1) (He.ma K (He.ga K "Fault") "__init__") P_Fault_init (spFault (He.ga K "Fault"))) : Df P w K mg base (L2.CX P w) (3) (He.ma K (He.ga K "Reader") "check_callees") P_Reader_check_callees (sp_check_callees K) := by
  refine dfx_mk (F_Reader_check_callees T) sc_Reader_check_callees (fun _ _ _ _ _ _ us hl => match us, hl with | [_], _ => rfl) (fun vs H Q E h => by obtain ⟨_, _, _, _, _, _, rfl, _⟩ := h; rfl) (fun cdv A outer s H vs Q E hr h => ⟨_, (pss_one (ps_for (passes_of rfl) rfl (pi_list (pe_fld (pv 0) rfl)) (pg_name (i := 1) sc_Reader_check_callees.nd rfl (Or.inl rfl)) (pss_one (ps_if (pt_cmp (pc_dnotin (hu_of hr) (pe_fld (pv 1) rfl) (pe_fld (pv 0) rfl))) (pss_one (ps_raise rfl (takes_of rfl rfl rfl rfl) (pfault D_Fault_init (ecl_of (e_2 T)) (of_decide_eq_true (e_6 T)) (of_decide_eq_true (e_7 T)) (g_Fault T) hr (pa_cons (pg (i_UNKNOWN_CALL T)) (pa_cons (pe_fld (pv 1) rfl) pa_nil))))) pss_nil)))), ?_⟩)
  obtain ⟨r, i, names, cs, as, bs, rfl, hobj, hlC, hcs, hdP, hl, qe, q⟩ := h
  refine ⟨_, rfl, r.a, _, r.dx, _, _, rfl, hobj, c_Reader T, n_Reader_callees T, rfl, r.lC, rfl, ⟨_, SqL.of hlC⟩, ?_⟩
  refine for_it walk_list (fun j σ H' => ∃ x, σ = [some (.ref r.a), x] ∧ H' = H ∧ (cs.take j).find? (lostName names) = none) ⟨none, rfl, rfl, rfl⟩ (fun j σ H' _ ⟨x, _, e, _⟩ => by rw [e]; exact SqL.of hlC) ?_ ?_
  · rintro j x σ H1 H2 hj ⟨y, rfl, rfl, hno⟩ ⟨rfl, hx⟩
    rw [List.getElem?_map] at hx
    obtain ⟨p, hp, rfl⟩ := Option.map_eq_some_iff.mp hx
    obtain ⟨c, hc, hres, z, dx, hP, hz⟩ := hcs.at' hp
    have hz' : z = tx c.name := hz
    subst hz'
    have hsome := some_kv c.name hl
    have htk : cs.take (j + 1) = cs.take j ++ [c] := by rw [List.take_add_one, hc] <;> rfl
    refine ⟨_, rfl, p, _, dx, _, _, rfl, hP, c_Token T, n_Token_text T, rfl, _, rfl, r.a, _, r.dx, _, _, rfl, hobj, c_Reader T, n_Reader_parts T, rfl, r.dP, _, rfl, DGet.k (k := Sum.inr (tx c.name)) hdP, _, rfl, ?_⟩
    refine iteNB (fun hn => ?_) (fun hn => ?_)
    · have hlost : lostName names c = true := by
        unfold lostName
        rw [← hsome]
        exact (by rw [show (valV (kvOf names bs) (Sum.inr (tx c.name) : Key)).isSome = false from hn] <;> rfl)
      have hfind : cs.find? (lostName names) = some c := by
        rw [← List.take_append_drop (j + 1) cs, List.find?_append, htk, List.find?_append, hno]
        show ((none : Option PName).or (List.find? _ [c])).or _ = _
        rw [List.find?_cons, hlost] <;> rfl
      exact ⟨_, rfl, p, _, dx, _, _, rfl, hP, c_Token T, n_Token_place T, rfl, born (qe c hfind).raise⟩
    · have hlost : lostName names c = false := by
        unfold lostName
        rw [← hsome]
        exact (by rw [show (valV (kvOf names bs) (Sum.inr (tx c.name) : Key)).isSome = true from hn] <;> rfl)
      refine ⟨_, rfl, rfl, ?_⟩
      rw [htk, List.find?_append, hno]
      show (none : Option PName).or (List.find? _ [c]) = none
      rw [List.find?_cons, hlost] <;> rfl
  · rintro σ H1 ⟨y, rfl, rfl, hno⟩
    rw [List.length_map, hcs.len, List.take_length] at hno
    exact q hno
end
end Vf

set_option Elab.async false
set_option linter.all false
set_option maxRecDepth 100000
set_option maxHeartbeats 4000000
/-! A program in the heap. -/
namespace Vf
open PySem PySem.Spec PyProof.Rows L2
open VakepBase (Bytes PTok Toks RESERVED tokEq PName word)
open Vakepa (Piece Raw RawPart Prog solve solveParts nameOf showPiece)
abbrev BStmt := Vakepa.Stmt
abbrev BPart := Vakepa.Part
/-- statements of a program -/
def SBodyAt (K : PySem.W.Frag) (p : Prog) (H : Hp) : BStmt → List V → Prop
  | .done, vs => vs = []
  | .say k r, vs => ∃ a dx ws, vs = .ref a :: ws ∧ H a = some (.ins (He.ga K "Say") dx [("amount", .int k)]) ∧ SBodyAt K p H r ws
  | .call k r, vs => ∃ a dx ws, vs = .ref a :: ws ∧ H a = some (.ins (He.ga K "Call") dx [("name", sv (nameOf p k))]) ∧ SBodyAt K p H r ws
  | .make ps r, vs => ∃ a dx l ws, vs = .ref a :: ws ∧ H a = some (.ins (He.ga K "Make") dx [("pieces", .ref l)]) ∧ H l = some (.lst (ps.map fun q => sv (showPiece p q))) ∧ SBodyAt K p H r ws
  | .when_ x v b r, vs => ∃ a dx l us ws, vs = .ref a :: ws ∧ H a = some (.ins (He.ga K "When") dx [("setting", sv (showPiece p (.set x))), ("word", sv (valueT p.sets x v)), ("body", .ref l)]) ∧ H l = some (.lst us) ∧ SBodyAt K p H b us ∧ SBodyAt K p H r ws
theorem SBodyAt.same {K : PySem.W.Frag} {p : Prog} {H H' : Hp} (s : Same H H') : ∀ {x : BStmt} {vs : List V}, SBodyAt K p H x vs → SBodyAt K p H' x vs
  | .done, _, h => h
  | .say k r, _, ⟨a, dx, ws, e, h, t⟩ => ⟨a, dx, ws, e, s _ _ h, SBodyAt.same s t⟩
  | .call k r, _, ⟨a, dx, ws, e, h, t⟩ => ⟨a, dx, ws, e, s _ _ h, SBodyAt.same s t⟩
  | .make ps r, _, ⟨a, dx, l, ws, e, h, h2, t⟩ => ⟨a, dx, l, ws, e, s _ _ h, s _ _ h2, SBodyAt.same s t⟩
  | .when_ x v b r, _, ⟨a, dx, l, us, ws, e, h, h2, t1, t⟩ => ⟨a, dx, l, us, ws, e, s _ _ h, s _ _ h2, SBodyAt.same s t1, SBodyAt.same s t⟩
def PAt (K : PySem.W.Frag) (p : Prog) (H : Hp) (a : Addr) (x : BPart) : Prop :=
  ∃ dx l us, H a = some (.ins (He.ga K "Part") dx [("name", sv x.name), ("size", .int x.size), ("body", .ref l)]) ∧ H l = some (.lst us) ∧ SBodyAt K p H x.body us
theorem PAt.same {K : PySem.W.Frag} {p : Prog} {H H' : Hp} (s : Same H H') {a : Addr} {x : BPart} (h : PAt K p H a x) : PAt K p H' a x := by
  obtain ⟨dx, l, us, e1, e2, e3⟩ := h
  exact ⟨dx, l, us, s _ _ e1, s _ _ e2, e3.same s⟩
/-- the pairs of a dict from names to their numbers -/
def nkv : List Bytes → Nat → List (Key × V)
  | [], _ => []
  | n :: ns, k => (Sum.inr (tx n), .int k) :: nkv ns (k + 1)
theorem nkv_len : ∀ (ns : List Bytes) (k : Nat), (nkv ns k).length = ns.length
  | [], _ => rfl
  | n :: ns, k => by
    show (nkv ns (k + 1)).length + 1 = _
    rw [nkv_len] <;> rfl
theorem nkv_app : ∀ (ns : List Bytes) (b : Bytes) (k : Nat), nkv (ns ++ [b]) k = nkv ns k ++ [(Sum.inr (tx b), .int ((k + ns.length : Nat) : Int))]
  | [], b, k => rfl
  | n :: ns, b, k => by
    show (_ :: nkv (ns ++ [b]) (k + 1)) = _ :: (nkv ns (k + 1) ++ _)
    rw [nkv_app ns b (k + 1), List.length_cons, show k + 1 + ns.length = k + (ns.length + 1) by omega]
theorem any_nkv (b : Bytes) : ∀ (ns : List Bytes) (k : Nat), ((nkv ns k).any fun kv => decide (kv.1 = (Sum.inr (tx b) : Key))) = ns.any fun x => x == b
  | [], _ => rfl
  | n :: ns, k => by
    show ((Sum.inr (tx n), V.int k) :: nkv ns (k + 1)).any _ = _
    rw [List.any_cons, List.any_cons, any_nkv b ns]
    congr 1
    rw [Bool.eq_iff_iff, decide_eq_true_eq, beq_iff_eq]
    exact key_eq
theorem valV_nkv (b : Bytes) : ∀ (ns : List Bytes) (k : Nat), valV (nkv ns k) (Sum.inr (tx b) : Key) = (ns.findIdx? fun x => x == b).map fun j => V.int ((k + j : Nat) : Int)
  | [], _ => rfl
  | n :: ns, k => by
    show valV ((Sum.inr (tx n), V.int k) :: nkv ns (k + 1)) _ = _
    rw [List.findIdx?_cons]
    by_cases e : n = b
    · subst e
      rw [valV_pos rfl, if_pos (beq_self_eq_true n)] <;> rfl
    · rw [valV_neg (fun z => e (key_eq.mp z)), if_neg (by simpa using e), valV_nkv b ns]
      cases ns.findIdx? (fun x => x == b) with
      | none => rfl
      | some j =>
        show some (V.int ((k + 1 + j : Nat) : Int)) = some (V.int ((k + (j + 1) : Nat) : Int))
        rw [show k + 1 + j = k + (j + 1) by omega]
/-- a program lies at a -/
def ProgAt (K : PySem.W.Frag) (H : Hp) (a : Addr) (p : Prog) : Prop := ∃ dx lS lP lE dN sa pa,
  H a = some (.ins (He.ga K "Program") dx [("settings", .ref lS), ("parts", .ref lP), ("entries", .ref lE), ("numbers", .ref dN)]) ∧ H lS = some (.lst (sa.map V.ref)) ∧ AtAll (SetAt K H) sa p.sets ∧
  H lP = some (.lst (pa.map V.ref)) ∧ AtAll (PAt K p H) pa p.parts ∧ H lE = some (.lst (p.starts.map fun (k : Nat) => V.int k)) ∧ H dN = some (.dK (nkv (p.parts.map fun x => x.name) 0))
theorem ProgAt.same {K : PySem.W.Frag} {H H' : Hp} {a : Addr} {p : Prog} (h : ProgAt K H a p) (s : Same H H') : ProgAt K H' a p := by
  obtain ⟨dx, lS, lP, lE, dN, sa, pa, e1, e2, e3, e4, e5, e6, e7⟩ := h
  exact ⟨dx, lS, lP, lE, dN, sa, pa, s _ _ e1, s _ _ e2, e3.mono fun _ _ => SetAt.same s, s _ _ e4, e5.mono fun _ _ => PAt.same s, s _ _ e6, s _ _ e7⟩
/-! ### from what was read -/
theorem body_solve {K : PySem.W.Frag} {H : Hp} {p : Prog} {names : List Bytes} (hn : p.parts.map (fun x => x.name) = names) : ∀ {x : Raw} {s : BStmt} {us : List V}, BodyAt K p.sets H x us → solve names x = .ok s → SBodyAt K p H s us
  | .done, s, us, h, e => by
    cases e
    exact h
  | .say k r, s, us, ⟨a, dx, ws, e1, e2, e3⟩, e => by
    rw [solve] at e
    cases q : solve names r with
    | error f => rw [q] at e; cases e
    | ok t =>
      rw [q] at e
      cases e
      exact ⟨a, dx, ws, e1, e2, body_solve hn e3 q⟩
  | .make ps r, s, us, ⟨a, dx, l, ws, e1, e2, e3, e4⟩, e => by
    rw [solve] at e
    cases q : solve names r with
    | error f => rw [q] at e; cases e
    | ok t =>
      rw [q] at e
      cases e
      refine ⟨a, dx, l, ws, e1, e2, ?_, body_solve hn e4 q⟩
      rw [e3]
      congr 2
  | .call c r, s, us, ⟨a, dx, ws, e1, e2, e3⟩, e => by
    rw [solve] at e
    cases hf : names.findIdx? fun y => y == c.name with
    | none => rw [hf] at e; cases e
    | some k =>
      rw [hf] at e
      dsimp only at e
      cases q : solve names r with
      | error f => rw [q] at e; cases e
      | ok t =>
        rw [q] at e
        cases e
        refine ⟨a, dx, ws, e1, ?_, body_solve hn e3 q⟩
        obtain ⟨y, hy, hyb⟩ := find_get hf
        have : nameOf p k = c.name := by
          unfold nameOf
          rw [← List.getElem?_map, hn, hy]
          exact eq_of_beq hyb
        rw [this]
        exact e2
  | .when_ x v b r, s, us, ⟨a, dx, l, us', ws, e1, e2, e3, e4, e5⟩, e => by
    rw [solve] at e
    cases q1 : solve names b with
    | error f => rw [q1] at e; cases e
    | ok tb =>
      rw [q1] at e
      cases q : solve names r with
      | error f =>
        rw [q] at e
        cases e
      | ok t =>
        rw [q] at e
        cases e
        exact ⟨a, dx, l, us', ws, e1, e2, e3, body_solve hn e4 q1, body_solve hn e5 q⟩
theorem parts_names {names : List Bytes} : ∀ {ps : List RawPart} {l : List BPart}, solveParts names ps = .ok l → l.map (fun x => x.name) = ps.map fun x => x.name
  | [], l, e => by
    cases e
    rfl
  | p :: r, l, e => by
    rw [solveParts] at e
    cases q1 : solve names p.body with
    | error f => rw [q1] at e; cases e
    | ok b =>
      rw [q1] at e
      cases q : solveParts names r with
      | error f =>
        rw [q] at e
        cases e
      | ok t =>
        rw [q] at e
        cases e
        show _ :: t.map _ = _ :: r.map _
        rw [parts_names q]
theorem parts_solve {K : PySem.W.Frag} {H : Hp} {p : Prog} {names : List Bytes} (hn : p.parts.map (fun x => x.name) = names) : ∀ {ps : List RawPart} {l : List BPart} {as : List Addr}, AtAll (PartAt K p.sets H) as ps → solveParts names ps = .ok l → AtAll (PAt K p H) as l
  | [], l, _, .nil, e => by
    cases e
    exact .nil
  | x :: r, l, _, .cons ⟨dx, lb, us, e1, e2, e3⟩ t, e => by
    rw [solveParts] at e
    cases q1 : solve names x.body with
    | error f => rw [q1] at e; cases e
    | ok b =>
      rw [q1] at e
      cases q : solveParts names r with
      | error f =>
        rw [q] at e
        cases e
      | ok t' =>
        rw [q] at e
        cases e
        exact .cons ⟨dx, lb, us, e1, e2, body_solve hn e3 q1⟩ (parts_solve hn t q)
section
variable {P : Program} {w : World} {K : PySem.W.Frag} {mg : Str → Option Value} {base : Heap}
abbrev N_Program_init : List Str := ["self", "settings", "parts", "entries", "number", "part"]
abbrev P_Program_init : List Str := ["self", "settings", "parts", "entries"]
theorem sc_Program_init : FnScope N_Program_init P_Program_init (defScope s_Program_init) := ⟨rfl, rfl, rfl, by decide +kernel, rfl, by decide +kernel, by decide +kernel⟩
def sp_Program_init (K : PySem.W.Frag) : Sp := fun vs H Q _ => ∃ (a dx lP : Addr) (u e : V) (pa : List Addr) (ns : List Bytes), vs = [.ref a, u, .ref lP, e] ∧ H a = some (.ins (He.ga K "Program") dx []) ∧ H lP = some (.lst (pa.map V.ref)) ∧ ns.Nodup ∧ ns.length ≤ 10 ∧
  AtAll (fun p n => ∃ dx s l, H p = some (.ins (He.ga K "Part") dx [("name", sv n), ("size", s), ("body", l)])) pa ns ∧
  ∀ H' dN, H' a = some (.ins (He.ga K "Program") dx [("settings", u), ("parts", .ref lP), ("entries", e), ("numbers", .ref dN)]) → (∀ b o, b ≠ a → H b = some o → H' b = some o) → H' dN = some (.dK (nkv ns 0)) → Q .non H'
theorem ok_Program_init (T : Tx K mg) : Df P w K mg base CX0 (1) (He.ma K (He.ga K "Program") "__init__") P_Program_init (sp_Program_init K) := by
  refine df_mk (F_Program_init T) sc_Program_init (fun _ _ _ _ _ _ us hl => match us, hl with | [_, _, _, _], _ => rfl) (fun vs H Q E h => by obtain ⟨_, _, _, _, _, _, _, rfl, _⟩ := h; rfl) (fun cdv A outer s H vs Q E hr h => ⟨_, (pss_cons (ps_fld (pv 0) (pv 1) rfl) (pss_cons (ps_fld (pv 0) (pv 2) rfl) (pss_cons (ps_fld (pv 0) (pv 3) rfl) (pss_cons (ps_fld (pv 0) pe_dnewK rfl) (pss_one (ps_for PassesOwn.never rfl (pi_enum (by rfl) (b_enumerate T) (pa_cons (pv 2) pa_nil)) (pg_tup rfl (pgs_cons (pg_name (i := 4) sc_Program_init.nd rfl (Or.inl rfl)) (pgs_cons (pg_name (i := 5) sc_Program_init.nd rfl (Or.inl rfl)) pgs_nil))) (pss_one (ps_dput (hu_of hr) (pe_fld (pv 0) rfl) (pe_fld (pv 5) rfl) (pv 4) rfl)))))))), ?_⟩)
  obtain ⟨a, dx, lP, u, e, pa, ns, rfl, ha, hP, hnd, hlen, hps, q⟩ := h
  refine ⟨_, rfl, _, rfl, a, _, dx, _, rfl, ha, c_Program T, n_Program_settings T, (by show 0 < 1000; decide), ?_⟩
  refine ⟨_, rfl, _, rfl, a, _, dx, _, rfl, upd_same, c_Program T, n_Program_parts T, (by show 1 < 1000; decide), ?_⟩
  refine ⟨_, rfl, _, rfl, a, _, dx, _, rfl, upd_same, c_Program T, n_Program_entries T, (by show 2 < 1000; decide), ?_⟩
  refine fun dN hdN => ?_
  have hne : dN ≠ a := fun z => by
    rw [z, upd_same] at hdN
    cases hdN
  have hn0 : H dN = none := by
    rw [upd_ne hne, upd_ne hne, upd_ne hne] at hdN
    exact hdN
  refine ⟨_, rfl, a, _, dx, _, rfl, by rw [upd_ne (Ne.symm hne)]; exact upd_same, c_Program T, n_Program_numbers T, (by show 3 < 1000; decide), ?_⟩
  have hother : ∀ b o, b ≠ a → H b = some o → (upd (upd (upd (upd (upd H a (HO.ins (He.ga K "Program") dx (putF "settings" u []))) a (HO.ins (He.ga K "Program") dx (putF "parts" (V.ref lP) (putF "settings" u [])))) a
      (HO.ins (He.ga K "Program") dx (putF "entries" e (putF "parts" (V.ref lP) (putF "settings" u []))))) dN (.dK [])) a (HO.ins (He.ga K "Program") dx (putF "numbers" (.ref dN) (putF "entries" e (putF "parts" (V.ref lP) (putF "settings" u [])))))) b = some o := fun b o hb hbo => by
    rw [upd_ne hb, upd_ne (ne_of_none hbo hn0), upd_ne hb, upd_ne hb, upd_ne hb]
    exact hbo
  have hnP : lP ≠ a := ne_kind hP ha (by intro z; cases z)
  refine ⟨_, rfl, lP, _, rfl, SqL.of (hother _ _ hnP hP), ?_⟩
  have hpl : (pa.map V.ref).length = ns.length := by rw [List.length_map, hps.len]
  refine for_it walk_enum (fun i σ H1 => ∃ x y, σ = [some (.ref a), some u, some (.ref lP), some e, x, y] ∧ H1 a = some (.ins (He.ga K "Program") dx [("settings", u), ("parts", .ref lP), ("entries", e), ("numbers", .ref dN)]) ∧
      (∀ b o, b ≠ a → H b = some o → H1 b = some o) ∧ H1 dN = some (.dK (nkv (ns.take i) 0))) ⟨none, none, rfl, upd_same, hother, by rw [upd_ne hne]; exact upd_same⟩ (fun i σ H1 _ ⟨_, _, _, _, k, _⟩ => SqL.of (k _ _ hnP hP)) ?_ ?_
  · rintro i x σ H1 H2 hi ⟨y, z, rfl, k1, k2, k3⟩ ⟨Tp, v1, v2, rfl, hT, rfl, e1, e2⟩
    cases e1
    dsimp only at e2
    rw [List.getElem?_map] at e2
    obtain ⟨p, hp, rfl⟩ := Option.map_eq_some_iff.mp e2
    obtain ⟨n, hn, dxp, sz, lb, hpp⟩ := hps.at' hp
    have hpa : p ≠ a := ne_kind hpp ha (by intro z; injection z with _ _ z; cases z)
    have g1 := k2 _ _ hpa hpp
    have ka : a ≠ Tp := ne_of_none k1 hT
    have kd : dN ≠ Tp := ne_of_none k3 hT
    refine ⟨Tp, _, rfl, .inl (.inl upd_same), rfl, _, _, rfl, _, _, rfl, rfl, ?_⟩
    refine ⟨_, rfl, _, rfl, a, _, dx, _, _, rfl, by rw [upd_ne ka]; exact k1, c_Program T, n_Program_numbers T, rfl, _, rfl, p, _, dxp, _, _, rfl, by rw [upd_ne (ne_of_none g1 hT)]; exact g1, c_Part T, n_Part_name T, rfl,
      dN, _, rfl, DPut.k (k := Sum.inr (tx n)) (by rw [upd_ne kd]; exact k3) ?_, some (.int i), some (.ref p), rfl, ?_, ?_, ?_⟩
    · rw [nkv_len, List.length_take]
      exact Nat.lt_of_le_of_lt (by omega : _ ≤ 10) (by decide)
    · rw [upd_ne (Ne.symm hne), upd_ne ka]
      exact k1
    · intro b o hb hbo
      have := k2 b o hb hbo
      rw [upd_ne (ne_of_none hbo hn0), upd_ne (ne_of_none this hT)]
      exact this
    · rw [upd_same]
      congr 2
      have hnot : ((ns.take i).any fun x => x == n) = false := by
        rw [← Bool.not_eq_true, List.any_eq_true]
        rintro ⟨x, hx, hxe⟩
        have hxn : x = n := eq_of_beq hxe
        subst hxn
        obtain ⟨j, hj, he⟩ := List.mem_iff_getElem.mp hx
        rw [List.length_take] at hj
        rw [List.getElem_take] at he
        obtain ⟨hil, hie⟩ := List.getElem?_eq_some_iff.mp hn
        have := (List.getElem_inj hnd).mp (he.trans hie.symm)
        omega
      unfold putK
      rw [any_nkv, hnot, List.take_add_one, hn]
      show nkv (ns.take i) 0 ++ _ = nkv (ns.take i ++ [n]) 0
      rw [nkv_app]
      have : (ns.take i).length = i := by
        rw [List.length_take]
        omega
      rw [this, Nat.zero_add]
  · rintro σ H1 ⟨x, y, rfl, k1, k2, k3⟩
    rw [hpl, List.take_length] at k3
    exact q _ _ k1 k2 k3
end
end Vf

set_option Elab.async false
set_option linter.all false
set_option maxRecDepth 100000
set_option maxHeartbeats 4000000
/-! A reader made; the whole reading. -/
namespace Vf
open PySem PySem.Spec PyProof.Rows L2
open VakepBase (Bytes PTok Toks RESERVED tokEq PName word taken takeName takeSign takeWord)
open Vakepa (Piece Raw RawPart Prog solveParts takeSets takeParts takeStarts)
section
variable {P : Program} {w : World} {K : PySem.W.Frag} {mg : Str → Option Value} {base : Heap}
theorem two_upd {H1 : Hp} {a x : Addr} {o u : HO} (hx : H1 x = none) (ha : ∃ v, H1 a = some v) : x ≠ a ∧ upd (upd H1 x o) a u a = some u ∧ upd (upd H1 x o) a u x = some o ∧ ∀ b v, b ≠ a → H1 b = some v → upd (upd H1 x o) a u b = some v := by
  obtain ⟨v, hv⟩ := ha
  have ne : x ≠ a := fun z => by rw [z, hv] at hx; cases hx
  exact ⟨ne, upd_same, by rw [upd_ne ne]; exact upd_same, fun b v hb e => by rw [upd_ne hb, upd_ne (ne_of_none e hx)]; exact e⟩
theorem two_elim {P : Hp → Prop} {H1 : Hp} {a x : Addr} {o u : HO} (hx : H1 x = none) (ha : ∃ v, H1 a = some v) (k : ∀ H2 : Hp, H2 a = some u → H2 x = some o → (∀ b v, b ≠ a → H1 b = some v → H2 b = some v) → P H2) : P (upd (upd H1 x o) a u) := by
  obtain ⟨-, h1, h2, h3⟩ := two_upd (o := o) (u := u) hx ha
  exact k _ h1 h2 h3
theorem ToksAt.monoT {K : PySem.W.Frag} {H H' : Hp} (s : ∀ b dx k z i, H b = some (.ins (He.ga K "Token") dx (tokF k z i)) → H' b = some (.ins (He.ga K "Token") dx (tokF k z i))) : ∀ {ps : List Addr} {ts : Toks}, ToksAt K H ps ts → ToksAt K H' ps ts
  | _, _, .nil => .nil
  | _, _, .cons (z := z) ⟨dx, e, k⟩ r => .cons (z := z) ⟨dx, s _ _ _ _ _ e, k⟩ (r.monoT s)
abbrev N_Reader_init : List Str := ["self", "tokens"]
abbrev P_Reader_init : List Str := ["self", "tokens"]
theorem sc_Reader_init : FnScope N_Reader_init P_Reader_init (defScope s_Reader_init) := ⟨rfl, rfl, rfl, by decide +kernel, rfl, by decide +kernel, by decide +kernel⟩
def sp_Reader_init (K : PySem.W.Frag) : Sp := fun vs H Q _ => ∃ (a dx lt : Addr) (tps : List Addr) (toks : Toks), vs = [.ref a, .ref lt] ∧ H a = some (.ins (He.ga K "Reader") dx []) ∧ H lt = some (.lst (tps.map V.ref)) ∧ ToksAt K H tps toks ∧ Wf toks ∧ toks.length ≤ 5000 ∧
  ∀ H' r, r.a = a → r.toks = toks → RS K [] H' r 0 [] [] [] [] → (∀ b o, b ≠ a → H b = some o → H' b = some o) → (∀ x ∈ r.M, x = a ∨ H x = none) → Q .non H'
theorem ok_Reader_init (T : Tx K mg) : Df P w K mg base CX0 (1) (He.ma K (He.ga K "Reader") "__init__") P_Reader_init (sp_Reader_init K) := by
  refine df_mk (F_Reader_init T) sc_Reader_init (fun _ _ _ _ _ _ us hl => match us, hl with | [_, _], _ => rfl) (fun vs H Q E h => by obtain ⟨_, _, _, _, _, rfl, _⟩ := h; rfl) (fun cdv A outer s H vs Q E hr h => ⟨_, (pss_cons (ps_fld (pv 0) (pv 1) rfl) (pss_cons (ps_fld (pv 0) pe_int rfl) (pss_cons (ps_fld (pv 0) pe_dnewK rfl) (pss_cons (ps_fld (pv 0) pe_dnewK rfl) (pss_cons (ps_fld (pv 0) (pe_lst pa_nil) rfl) (pss_one (ps_fld (pv 0) (pe_lst pa_nil) rfl))))))), ?_⟩)
  obtain ⟨a, dx, lt, tps, toks, rfl, ha, hlt, ht, hwf, hsm, q⟩ := h
  refine ⟨_, rfl, _, rfl, a, _, dx, _, rfl, ha, c_Reader T, n_Reader_tokens T, (by show 0 < 1000; decide), ?_⟩
  refine ⟨_, rfl, a, _, dx, _, rfl, upd_same, c_Reader T, n_Reader_at T, (by show 1 < 1000; decide), ?_⟩
  rw [upd_upd]
  have o1 : ∀ b o, b ≠ a → H b = some o → upd H a (HO.ins (He.ga K "Reader") dx (putF "at" (V.int 0) (putF "tokens" (V.ref lt) []))) b = some o := fun b o hb e => by rw [upd_ne hb]; exact e
  have a1 : upd H a (HO.ins (He.ga K "Reader") dx (putF "at" (V.int 0) (putF "tokens" (V.ref lt) []))) a = some (.ins (He.ga K "Reader") dx [("tokens", .ref lt), ("at", .int 0)]) := upd_same
  have n1 : ∀ b, upd H a (HO.ins (He.ga K "Reader") dx (putF "at" (V.int 0) (putF "tokens" (V.ref lt) []))) b = none → b ≠ a ∧ H b = none := fun b e => by
    have : b ≠ a := fun z => by rw [z, upd_same] at e; cases e
    rw [upd_ne this] at e
    exact ⟨this, e⟩
  generalize upd H a (HO.ins (He.ga K "Reader") dx (putF "at" (V.int 0) (putF "tokens" (V.ref lt) []))) = H1 at o1 a1 n1 ⊢
  refine fun dS hS => ?_
  have ha1 : ∃ v, H1 a = some v := ⟨_, a1⟩
  have hSa : dS ≠ a := (n1 _ hS).1
  refine ⟨_, rfl, a, _, dx, _, rfl, by rw [upd_ne (Ne.symm hSa)]; exact a1, c_Reader T, n_Reader_settings T, (by show 2 < 1000; decide), ?_⟩
  refine two_elim hS ha1 fun H2 a2 s2 o2 => ?_
  replace a2 : H2 a = some (.ins (He.ga K "Reader") dx [("tokens", .ref lt), ("at", .int 0), ("settings", .ref dS)]) := a2
  have n2 : ∀ b, H2 b = none → b ≠ a → H1 b = none := fun b e hb => by
    cases q : H1 b with
    | none => rfl
    | some v => rw [o2 b v hb q] at e; cases e
  refine fun dP hP => ?_
  have hPa : dP ≠ a := fun z => by rw [z, a2] at hP; cases hP
  refine ⟨_, rfl, a, _, dx, _, rfl, by rw [upd_ne (Ne.symm hPa)]; exact a2, c_Reader T, n_Reader_parts T, (by show 3 < 1000; decide), ?_⟩
  refine two_elim hP ⟨_, a2⟩ fun H3 a3 s3 o3 => ?_
  replace a3 : H3 a = some (.ins (He.ga K "Reader") dx [("tokens", .ref lt), ("at", .int 0), ("settings", .ref dS), ("parts", .ref dP)]) := a3
  have n3 : ∀ b, H3 b = none → b ≠ a → H2 b = none := fun b e hb => by
    cases q : H2 b with
    | none => rfl
    | some v => rw [o3 b v hb q] at e; cases e
  refine ⟨(by decide), fun lE hE => ?_⟩
  have hEa : lE ≠ a := fun z => by rw [z, a3] at hE; cases hE
  refine ⟨_, rfl, a, _, dx, _, rfl, by rw [upd_ne (Ne.symm hEa)]; exact a3, c_Reader T, n_Reader_entries T, (by show 4 < 1000; decide), ?_⟩
  refine two_elim hE ⟨_, a3⟩ fun H4 a4 s4 o4 => ?_
  replace a4 : H4 a = some (.ins (He.ga K "Reader") dx [("tokens", .ref lt), ("at", .int 0), ("settings", .ref dS), ("parts", .ref dP), ("entries", .ref lE)]) := a4
  have n4 : ∀ b, H4 b = none → b ≠ a → H3 b = none := fun b e hb => by
    cases q : H3 b with
    | none => rfl
    | some v => rw [o4 b v hb q] at e; cases e
  refine ⟨(by decide), fun lC hC => ?_⟩
  have hCa : lC ≠ a := fun z => by rw [z, a4] at hC; cases hC
  refine ⟨_, rfl, a, _, dx, _, rfl, by rw [upd_ne (Ne.symm hCa)]; exact a4, c_Reader T, n_Reader_callees T, (by show 5 < 1000; decide), ?_⟩
  refine two_elim hC ⟨_, a4⟩ fun H5 a5 s5 o5 => ?_
  replace a5 : H5 a = some (.ins (He.ga K "Reader") dx [("tokens", .ref lt), ("at", .int 0), ("settings", .ref dS), ("parts", .ref dP), ("entries", .ref lE), ("callees", .ref lC)]) := a5
  -- what is new was free
  have fS : H dS = none := (n1 _ hS).2
  have fP1 := n2 _ hP hPa
  have fP : H dP = none := (n1 _ fP1).2
  have fE1 := n2 _ (n3 _ hE hEa) hEa
  have fE : H lE = none := (n1 _ fE1).2
  have fC2 := n3 _ (n4 _ hC hCa) hCa
  have fC : H lC = none := (n1 _ (n2 _ fC2 hCa)).2
  have all : ∀ b o, b ≠ a → H b = some o → H5 b = some o := fun b o hb e => o5 b o hb (o4 b o hb (o3 b o hb (o2 b o hb (o1 b o hb e))))
  have eS : H5 dS = some (.dK []) := o5 _ _ hSa (o4 _ _ hSa (o3 _ _ hSa s2))
  have eP : H5 dP = some (.dK []) := o5 _ _ hPa (o4 _ _ hPa s3)
  have eE : H5 lE = some (.lst []) := o5 _ _ hEa s4
  have nSP : dS ≠ dP := ne_of_none s2 hP
  have nEC : lE ≠ lC := ne_of_none s4 hC
  let r : Rd := ⟨a, dx, lt, dS, dP, lE, lC, tps, toks⟩
  have off5 : ∀ b o, b ≠ a → H b = some o → Off ([] ++ r.M) H5 b = some o := fun b o hb e => by
    refine off_some.mpr ⟨fun z => ?_, all b o hb e⟩
    simp only [List.nil_append, Rd.M, List.mem_cons, List.not_mem_nil, or_false, r] at z
    rcases z with rfl | rfl | rfl | rfl | rfl
    · exact hb rfl
    · rw [fS] at e; cases e
    · rw [fP] at e; cases e
    · rw [fE] at e; cases e
    · rw [fC] at e; cases e
  refine q H5 r rfl rfl ⟨a5, ?_, (fun x hx => nomatch hx), off5 _ _ (ne_kind hlt ha (by intro z; cases z)) hlt, ht.monoT fun b dx' k z i e => off5 _ _ (ne_kind e ha (by intro z; injection z with _ _ z; cases z)) e, hwf, hsm, ?_, ⟨[], eS, .nil⟩, ⟨[], eP, .nil⟩, eE, ⟨[], s5, .nil⟩, Nat.zero_le _⟩ all ?_
  · simp only [List.nil_append, Rd.M, List.nodup_cons, List.mem_cons, List.not_mem_nil, or_false, not_or, r, not_false_eq_true, List.nodup_nil, and_true]
    refine ⟨⟨Ne.symm hSa, Ne.symm hPa, Ne.symm hEa, Ne.symm hCa⟩, ⟨nSP, ?_, ?_⟩, ⟨?_, ?_⟩, nEC⟩
    · exact ne_kind eS eE (by intro z; cases z)
    · exact ne_kind eS s5 (by intro z; cases z)
    · exact ne_kind eP eE (by intro z; cases z)
    · exact ne_kind eP s5 (by intro z; cases z)
  · obtain ⟨pre, p, e, _⟩ := hwf
    show 0 < toks.length
    rw [e, List.length_append]
    exact Nat.lt_of_lt_of_le (Nat.zero_lt_one) (Nat.le_add_left _ _)
  · intro x hx
    simp only [Rd.M, List.mem_cons, List.not_mem_nil, or_false, r] at hx
    rcases hx with rfl | rfl | rfl | rfl | rfl
    · exact .inl rfl
    · exact .inr fS
    · exact .inr fP
    · exact .inr fE
    · exact .inr fC
abbrev N_Reader_read : List Str := ["self", "parts", "names", "entries", "part", "entry"]
abbrev P_Reader_read : List Str := ["self"]
theorem sc_Reader_read : FnScope N_Reader_read P_Reader_read (defScope s_Reader_read) := ⟨rfl, rfl, rfl, by decide +kernel, rfl, by decide +kernel, by decide +kernel⟩
/-- what follows the settings, the parts -/
def K2 (ss : Sets) (p : List RawPart × Toks) : Except VakepBase.Fault Prog := (takeWord "start" p.2).bind fun r => (takeStarts (pn p.1) (r.length + 1) [] r).bind fun e => (solveParts (pn p.1) p.1).map fun ps => ⟨ss, ps, e⟩
def K1 (s : Sets × Toks) : Except VakepBase.Fault Prog := (takeParts s.1 (s.2.length + 1) [] s.2).bind (K2 s.1)
def readToks (l : Toks) : Except VakepBase.Fault Prog := (takeSets (l.length + 1) [] l).bind K1
theorem read_eq (b : Bytes) : Vakepa.read b = (VakepBase.tokens b).bind readToks := rfl
theorem G1_some {ss : Sets} {ps ps' : List RawPart} {l l' : Toks} (h : G1 ss ps l = .ok (ps', l')) : ∃ pt, ps' = ps ++ [pt] ∧ (ps.any fun p => p.name == pt.name) = false := by
  unfold G1 at h
  split at h
  · cases h
  · cases e1 : takeName (l.drop 1) with
    | error f => rw [e1] at h; cases h
    | ok x =>
      rw [e1] at h
      change (if _ then _ else _) = _ at h
      split at h
      · cases h
      · rename_i hno
        cases e2 : takeWord "size" x.2 with
        | error f => rw [e2] at h; cases h
        | ok y =>
          rw [e2] at h
          change (Vakepa.takeNat Vakepa.SIZE y).bind _ = _ at h
          cases e3 : Vakepa.takeNat Vakepa.SIZE y with
          | error f => rw [e3] at h; cases h
          | ok k =>
            rw [e3] at h
            change (takeSign 123 k.2).bind _ = _ at h
            cases e4 : takeSign 123 k.2 with
            | error f => rw [e4] at h; cases h
            | ok z =>
              rw [e4] at h
              change (Vakepa.takeStmts ss _ 0 z).bind _ = _ at h
              cases e5 : Vakepa.takeStmts ss (z.length + 1) 0 z with
              | error f => rw [e5] at h; cases h
              | ok b =>
                rw [e5] at h
                cases h
                refine ⟨_, rfl, ?_⟩
                exact bfalse fun z => hno (.inl z)
theorem GP_some {ss : Sets} {ps ps' : List RawPart} {l l' : Toks} (h : GP ss ps l = .ok (ps', l')) : ∃ pt, ps' = ps ++ [pt] ∧ (ps.any fun p => p.name == pt.name) = false := by
  unfold GP at h
  split at h
  · exact G1_some h
  · cases h
theorem nodup_push {ps : List RawPart} {pt : RawPart} (h : (pn ps).Nodup) (hn : (ps.any fun p => p.name == pt.name) = false) : (pn (ps ++ [pt])).Nodup := by
  unfold pn at h ⊢
  rw [List.map_append, List.nodup_append]
  refine ⟨h, by simp, ?_⟩
  intro a ha b hb
  rw [List.map_cons, List.map_nil, List.mem_singleton] at hb
  subst hb
  intro z
  subst z
  obtain ⟨p, hp, e⟩ := List.mem_map.mp ha
  have := (List.any_eq_true (p := fun p : RawPart => p.name == pt.name)).mpr ⟨p, hp, (by rw [e]; exact beq_self_eq_true _ : (p.name == pt.name) = true)⟩
  rw [hn] at this
  cases this
def sp_read (K : PySem.W.Frag) : Sp := fun vs H Q E => ∃ (r : Rd), vs = [.ref r.a] ∧ RS K [] H r 0 [] [] [] [] ∧ (∀ f, readToks r.toks = .error f → Err K r.M H E f) ∧
  (∀ p, readToks r.toks = .ok p → ∀ pa H', Same (Off r.M H) (Off r.M H') → ProgAt K H' pa p → Q (.ref pa) H')
theorem AtAll.mapTo {α β : Type} {R : Addr → α → Prop} {R' : Addr → β → Prop} {f : α → β} (s : ∀ p x, R p x → R' p (f x)) : ∀ {ps : List Addr} {xs : List α}, AtAll R ps xs → AtAll R' ps (xs.map f)
  | _, _, .nil => .nil
  | _, _, .cons h r => .cons (s _ _ h) (r.mapTo s)
theorem kv_snd : ∀ {ns : List Bytes} {as : List Addr}, as.length = ns.length → (kvOf ns as).map (fun kv => kv.2) = as.map V.ref
  | [], [], _ => rfl
  | [], _ :: _, h => nomatch h
  | _ :: _, [], h => nomatch h
  | n :: ns, a :: as, h => by
    show V.ref a :: (kvOf ns as).map (fun kv => kv.2) = _
    rw [kv_snd (Nat.succ.inj h)] <;> rfl
theorem same_new {H : Hp} {a : Addr} {o : HO} (h : H a = none) : Same H (upd H a o) := same_upd (Same.refl H) h
theorem ok_Reader_read (T : Tx K mg) (D_Reader_take : Df P w K mg base (L2.CX P w) (3) (He.ma K (He.ga K "Reader") "take") P_Reader_take (sp_take K)) (D_Reader_ahead : Df P w K mg base CX0 (1) (He.ma K (He.ga K "Reader") "ahead") P_Reader_ahead (sp_ahead K)) (D_Reader_read_setting : Df P w K mg base (L2.CX P w) (5) (He.ma K (He.ga K "Reader") "read_setting") P_Reader_read_setting (sp_read_setting K)) (D_Reader_read_part : Df P w K mg base (L2.CX P w) (17) (He.ma K (He.ga K "Reader") "read_part") P_Reader_read_part (sp_read_part K)) (D_Reader_read_start : Df P w K mg base (L2.CX P w) (5) (He.ma K (He.ga K "Reader") "read_start") P_Reader_read_start (sp_read_start K)) (D_Reader_check_callees : Df P w K mg base (L2.CX P w) (3) (He.ma K (He.ga K "Reader") "check_callees") P_Reader_check_callees (sp_check_callees K)) (D_Program_init : Df P w K mg base CX0 (1) (He.ma K (He.ga K "Program") "__init__") P_Program_init (sp_Program_init K)) : Df P w K mg base (L2.CX P w) (18) (He.ma K (He.ga K "Reader") "read") P_Reader_read (sp_read K) := by
  refine dfx_mk (F_Reader_read T) sc_Reader_read (fun _ _ _ _ _ _ us hl => match us, hl with | [_], _ => rfl) (fun vs H Q E h => by obtain ⟨_, rfl, _⟩ := h; rfl) (fun cdv A outer s H vs Q E hr h => ⟨_, (pss_cons (ps_while (passes_of rfl) (pt_cmpR op_eq (pe_fld (pm0 D_Reader_ahead (c_Reader T) (m_Reader_ahead T)  hr (pv 0)) rfl) pe_str (nomark _)) (pss_one (ps_expr (pmx0 D_Reader_read_setting (c_Reader T) (m_Reader_read_setting T) (takes_of rfl rfl rfl rfl) hr (pv 0))))) (pss_cons (ps_expr (pmx0 D_Reader_read_part (c_Reader T) (m_Reader_read_part T) (takes_of rfl rfl rfl rfl) hr (pv 0))) (pss_cons (ps_while (passes_of rfl) (pt_cmpR op_eq (pe_fld (pm0 D_Reader_ahead (c_Reader T) (m_Reader_ahead T)  hr (pv 0)) rfl) pe_str (nomark _)) (pss_one (ps_expr (pmx0 D_Reader_read_part (c_Reader T) (m_Reader_read_part T) (takes_of rfl rfl rfl rfl) hr (pv 0))))) (pss_cons (ps_expr (pmx0 D_Reader_read_start (c_Reader T) (m_Reader_read_start T) (takes_of rfl rfl rfl rfl) hr (pv 0))) (pss_cons (ps_expr (pmx D_Reader_take (c_Reader T) (m_Reader_take T) (takes_of rfl rfl rfl rfl) hr (pv 0) (pa_cons (pg (t_END T)) pa_nil))) (pss_cons (ps_expr (pmx0 D_Reader_check_callees (c_Reader T) (m_Reader_check_callees T) (takes_of rfl rfl rfl rfl) hr (pv 0))) (pss_cons (ps_set (i := 1) sc_Reader_read.nd rfl (Or.inl rfl) (pe_listValues rfl (pe_fld (pv 0) rfl) (by rfl) (b_list T) (by decide +kernel))) (pss_cons (ps_set (i := 2) sc_Reader_read.nd rfl (Or.inr rfl) (pe_lc rfl sc_Reader_read.nd (own := [("part", 4)]) (pi_list (pv 1)) (blkOk_by (own := [("part", 4)]) (N := N_Reader_read) (sc := defScope s_Reader_read) (by decide +kernel)) (fun _ _ _ _ _ => pg_name (i := 4) sc_Reader_read.nd rfl (Or.inl rfl)) (fun _ _ _ _ _ => pts_nil) (fun _ _ _ _ _ => (pe_fldK (K := K) rfl (pv 4) rfl)))) (pss_cons (ps_setLc (i := 3) rfl sc_Reader_read.nd rfl rfl (sw_true rfl rfl rfl (by decide +kernel)) (own := [("entry", 5)]) (pi_list (pe_fld (pv 0) rfl)) (blkOk_by (own := [("entry", 5)]) (N := N_Reader_read) (sc := defScope s_Reader_read) (by decide +kernel)) (fun _ _ _ _ _ => pg_name (i := 5) sc_Reader_read.nd rfl (Or.inl rfl)) (fun _ _ _ _ _ => pts_nil) (fun _ _ _ _ _ => (pe_bmK (K := K) rfl PySem.F.plainAttrs_list PySem.F.slot_list_index PySem.F.type_list_index (mt_indexK (K := K) rfl) (pv 2) (pa_cons (pv 5) pa_nil)))) (pss_one (ps_ret (pk D_Program_init (k_Program T) (g_Program T) hr (pa_cons (pe_listValues rfl (pe_fld (pv 0) rfl) (by rfl) (b_list T) (by decide +kernel)) (pa_cons (pv 1) (pa_cons (pv 3) pa_nil))))))))))))))), ?_⟩)
  obtain ⟨r, rfl, h, qe, q⟩ := h
  have hr0 : r.at_ 0 = r.toks := List.drop_zero
  have hR : readToks r.toks = (takeSets ((r.at_ 0).length + 1) [] (r.at_ 0)).bind K1 := by rw [hr0] <;> rfl
  refine ⟨fun m σ H' => ∃ i' ss n, m = r.toks.length - i' ∧ σ = L2.start N_Reader_read [.ref r.a] ∧ RS K [] H' r i' ss [] [] [] ∧ Same (Off r.M H) (Off r.M H') ∧ ss.length ≤ 3 ∧ (r.at_ i').length < n ∧ readToks r.toks = (takeSets n ss (r.at_ i')).bind K1,
    ⟨_, 0, [], _, rfl, rfl, h, Same.refl _, by decide, Nat.lt_succ_self _, hR⟩, ?_⟩
  clear hR h
  rintro m σ H1 ⟨i, ss, n, rfl, rfl, h1, f1, hs3, hn, hR⟩
  obtain ⟨t1, ht1⟩ := h1.tok_at
  obtain ⟨p1, dx1, z1, hp1, hP1, -⟩ := h1.ra.tok T ht1
  obtain ⟨n', rfl⟩ : ∃ n', n = n' + 1 := ⟨n - 1, by omega⟩
  have hset : takeSets (n' + 1) ss (r.at_ i) = if tokEq t1.tok (.name (word "set")) = true then (S1 ss (r.at_ i)).bind fun y => takeSets n' y.1 y.2 else .ok (ss, r.at_ i) := by
    rw [sets_one]
    unfold VakepBase.nextWord
    rw [next_is ht1]
  refine ⟨_, rfl, r.a, r.dx, _, rfl, h1.obj, rfl, r, i, p1, rfl, h1.ra, hp1, p1, _, dx1, _, _, rfl, hP1, c_Token T, n_Token_kind T, rfl, rfl, _, rfl, ?_⟩
  refine iteD (fun hk => ?_) (fun hk => ?_)
  · -- one more setting
    have hk' := str_v.mp hk
    rw [hset, if_pos ((kw (s := "set") _).mp hk')] at hR
    refine ⟨fun σ' H' => ∃ i' ss, i < i' ∧ σ' = L2.start N_Reader_read [.ref r.a] ∧ RS K [] H' r i' ss [] [] [] ∧ Same (Off r.M H) (Off r.M H') ∧ ss.length ≤ 3 ∧ (r.at_ i').length < n' ∧ readToks r.toks = (takeSets n' ss (r.at_ i')).bind K1, ?_, ?_⟩
    · rintro σ' H' ⟨i', ss, k1, k2, k3, k4, k5, k6, k7⟩
      exact ⟨_, by have := h1.hi; omega, i', ss, n', rfl, k2, k3, k4, k5, k6, k7⟩
    refine ⟨_, rfl, r.a, r.dx, _, rfl, h1.obj, rfl, [], r, i, ss, [], [], t1, rfl, h1, ht1, hk', hs3, fun f e => ?_, fun ss' l' e H2 i2 f2 h2 el hi2 hs2 => ?_⟩
    · exact (qe f (by rw [hR, e] <;> rfl)).mono f1
    · rw [e, el] at hR
      refine ⟨i2, ss', hi2, rfl, h2, f1.trans f2, hs2, ?_, hR⟩
      have := h2.hi
      rw [List.length_drop] at hn ⊢
      omega
  -- the parts
  rw [hset, if_neg (fun z => hk (str_v.mpr ((kw (s := "set") _).mpr z)))] at hR
  have hR2 : readToks r.toks = ((GP ss [] (r.at_ i)).bind fun y => takeParts ss (r.at_ i).length y.1 y.2).bind (K2 ss) := by
    rw [hR]
    show (takeParts ss ((r.at_ i).length + 1) [] (r.at_ i)).bind (K2 ss) = _
    rw [parts_one]
    unfold GP
    split <;> rfl
  clear hR hset
  refine ⟨_, rfl, r.a, r.dx, _, rfl, h1.obj, rfl, [], r, i, ss, [], [], [], rfl, h1, by decide, fun f e => ?_, fun pt l' e H2 i2 f2 h2 el hi2 hs2 => ?_⟩
  · exact (qe f (by rw [hR2, e] <;> rfl)).mono f1
  obtain ⟨pt', hpt, hno⟩ := GP_some e
  have hpt' : pt = pt' := by
    have := List.append_cancel_left hpt
    injection this
  subst hpt'
  rw [e, el] at hR2
  have hlen2 : (r.at_ i2).length < (r.at_ i).length := by
    have := h2.hi
    rw [List.length_drop, List.length_drop]
    omega
  refine ⟨fun m σ H' => ∃ i' ps n, m = r.toks.length - i' ∧ σ = L2.start N_Reader_read [.ref r.a] ∧ RS K [] H' r i' ss ps [] (allCallees ps) ∧ Same (Off r.M H) (Off r.M H') ∧ ps ≠ [] ∧ ps.length ≤ 10 ∧ (pn ps).Nodup ∧ (r.at_ i').length < n ∧ readToks r.toks = (takeParts ss n ps (r.at_ i')).bind (K2 ss),
    ⟨_, i2, [pt], _, rfl, rfl, ?_, f1.trans f2, (fun z => nomatch z), by show 1 ≤ 10; decide, nodup_push (ps := []) List.nodup_nil hno, hlen2, hR2⟩, ?_⟩
  · have : allCallees [pt] = [] ++ callees pt.body := by
      show callees pt.body ++ [] = _
      rw [List.append_nil] <;> rfl
    rw [this]
    exact h2
  clear hlen2 hR2 e el l' h2 f2 hs2 hi2 hno hpt h1 f1 ht1 hp1 hP1 hn hk hs3
  rintro m σ H3 ⟨i3, ps, n, rfl, rfl, h3, f3, hne, hp10, hnd, hn3, hR⟩
  obtain ⟨t3, ht3⟩ := h3.tok_at
  obtain ⟨p3, dx3, z3, hp3, hP3, -⟩ := h3.ra.tok T ht3
  obtain ⟨n', rfl⟩ : ∃ n', n = n' + 1 := ⟨n - 1, by omega⟩
  have hemp : ps.isEmpty = false := by
    cases ps with
    | nil => exact absurd rfl hne
    | cons _ _ => rfl
  refine ⟨_, rfl, r.a, r.dx, _, rfl, h3.obj, rfl, r, i3, p3, rfl, h3.ra, hp3, p3, _, dx3, _, _, rfl, hP3, c_Token T, n_Token_kind T, rfl, rfl, _, rfl, ?_⟩
  refine iteD (fun hk => ?_) (fun hk => ?_)
  · have hk' := (kw (s := "part") _).mp (str_v.mp hk)
    have hR3 : readToks r.toks = ((GP ss ps (r.at_ i3)).bind fun y => takeParts ss n' y.1 y.2).bind (K2 ss) := by
      rw [hR, parts_one]
      unfold GP VakepBase.nextWord
      rw [next_is ht3, if_pos hk', if_pos hk']
    clear hR
    refine ⟨fun σ' H' => ∃ i' ps, i3 < i' ∧ σ' = L2.start N_Reader_read [.ref r.a] ∧ RS K [] H' r i' ss ps [] (allCallees ps) ∧ Same (Off r.M H) (Off r.M H') ∧ ps ≠ [] ∧ ps.length ≤ 10 ∧ (pn ps).Nodup ∧ (r.at_ i').length < n' ∧ readToks r.toks = (takeParts ss n' ps (r.at_ i')).bind (K2 ss), ?_, ?_⟩
    · rintro σ' H' ⟨i', ps, k1, k2, k3, k4, k5, k6, k7, k8, k9⟩
      exact ⟨_, by have := h3.hi; omega, i', ps, n', rfl, k2, k3, k4, k5, k6, k7, k8, k9⟩
    refine ⟨_, rfl, r.a, r.dx, _, rfl, h3.obj, rfl, [], r, i3, ss, ps, [], _, rfl, h3, hp10, fun f e => ?_, fun pt l' e H4 i4 f4 h4 el hi4 hs4 => ?_⟩
    · exact (qe f (by rw [hR3, e] <;> rfl)).mono f3
    · obtain ⟨pt', hpt, hno⟩ := GP_some e
      have hpt' : pt = pt' := by
        have := List.append_cancel_left hpt
        injection this
      subst hpt'
      rw [e, el] at hR3
      refine ⟨i4, ps ++ [pt], hi4, rfl, ?_, f3.trans f4, (fun z => by have := congrArg List.length z; rw [List.length_append] at this; cases this), by rw [List.length_append]; exact hs4, nodup_push hnd hno, ?_, hR3⟩
      · have : allCallees (ps ++ [pt]) = allCallees ps ++ callees pt.body := by
          unfold allCallees
          rw [List.flatMap_append, List.flatMap_cons, List.flatMap_nil, List.append_nil]
        rw [this]
        exact h4
      · have := h4.hi
        rw [List.length_drop] at hn3 ⊢
        omega
  -- the entries
  have hk' : ¬ tokEq t3.tok (.name (word "part")) = true := fun z => hk (str_v.mpr ((kw (s := "part") _).mpr z))
  have hR4 : readToks r.toks = ((St (pn ps) ((r.at_ (i3 + 1)).length + 1) (r.at_ i3)).bind fin_).bind fun e => (solveParts (pn ps) ps).map fun l => ⟨ss, l, e⟩ := by
    rw [hR, parts_one]
    unfold VakepBase.nextWord
    rw [next_is ht3, if_neg hk', hemp]
    show K2 ss (ps, r.at_ i3) = _
    unfold K2 St
    by_cases e : tokEq t3.tok (.name (word "start")) = true
    · rw [show takeWord "start" (r.at_ i3) = _ from take_ok ht3 e]
      show (takeStarts (pn ps) _ [] _).bind _ = _
      rw [starts_G] <;> rfl
    · rw [show takeWord "start" (r.at_ i3) = _ from take_no ht3 e] <;> rfl
  clear hR
  refine ⟨_, rfl, r.a, r.dx, _, rfl, h3.obj, rfl, [], r, i3, _, ss, ps, _, rfl, h3, hnd, Nat.lt_succ_self _, fun f e => ?_, fun es l' e H4 i4 f4 h4 el hi4 hes he4 => ?_⟩
  · exact (qe f (by rw [hR4, e] <;> rfl)).mono f3
  rw [e, el] at hR4
  have hR5 : readToks r.toks = (fin_ (es, r.at_ i4)).bind fun e => (solveParts (pn ps) ps).map fun l => ⟨ss, l, e⟩ := hR4
  clear hR4
  replace f4 := f3.trans f4
  obtain ⟨t4, ht4⟩ := h4.tok_at
  have hfin : fin_ (es, r.at_ i4) = if tokEq t4.tok .last = true then .ok es else .error ⟨3, t4.place⟩ := by
    unfold fin_ VakepBase.wrong
    dsimp only
    rw [next_is ht4, here_at ht4]
  refine ⟨_, rfl, r.a, r.dx, _, rfl, h4.obj, rfl, r, i4, t4, _, rfl, h4.ra, ht4, fun _ _ _ _ _ _ hk4 => ?_, fun hk4 => ?_⟩
  case refine_2 =>
    refine ((qe ⟨3, t4.place⟩ ?_).mono f4).raise
    rw [hR5, hfin, if_neg (mt (kind_end _).mpr hk4)] <;> rfl
  rw [hfin, if_pos ((kind_end _).mp hk4)] at hR5
  have hR6 : readToks r.toks = (solveParts (pn ps) ps).map fun l => ⟨ss, l, es⟩ := hR5
  clear hR5 hfin
  -- what lies there now
  have hM := h4.mn
  obtain ⟨sa, hdS4, hsets⟩ := h4.sets
  obtain ⟨bs, hdP4, hparts⟩ := h4.parts
  obtain ⟨cas, hlC4, hcalls⟩ := h4.calls
  have hlE4 := h4.ents
  have hobj4 := h4.obj
  have n1 : r.dS ≠ r.a := ne_kind hdS4 hobj4 (by intro z; cases z)
  have n2 : r.dP ≠ r.a := ne_kind hdP4 hobj4 (by intro z; cases z)
  have n3 : r.lE ≠ r.a := ne_kind hlE4 hobj4 (by intro z; cases z)
  have n4 : r.lC ≠ r.a := ne_kind hlC4 hobj4 (by intro z; cases z)
  have q5 : Off ([] ++ r.M) (upd H4 r.a (rdO K r (i4 + 1))) = Off ([] ++ r.M) H4 := off_upd (RS.a_in [] r)
  have f5 : Same (Off r.M H) (Off r.M (upd H4 r.a (rdO K r (i4 + 1)))) := f4.trans (frm_a r H4 _)
  rw [← q5] at hsets hparts hcalls
  have hobj5 : upd H4 r.a (rdO K r (i4 + 1)) r.a = some (rdO K r (i4 + 1)) := upd_same
  rw [← upd_ne (H := H4) (o := rdO K r (i4 + 1)) n1] at hdS4
  rw [← upd_ne (H := H4) (o := rdO K r (i4 + 1)) n2] at hdP4
  rw [← upd_ne (H := H4) (o := rdO K r (i4 + 1)) n3] at hlE4
  rw [← upd_ne (H := H4) (o := rdO K r (i4 + 1)) n4] at hlC4
  clear q5 hobj4 n1 n2 n3 n4
  generalize upd H4 r.a (rdO K r (i4 + 1)) = H5 at hsets hparts hcalls hobj5 hdS4 hdP4 hlE4 hlC4 f5 ⊢
  have hbl : bs.length = (pn ps).length := by
    unfold pn
    rw [hparts.len, List.length_map]
  have hsl : sa.length = (ss.map fun s => s.name).length := by rw [hsets.len, List.length_map]
  refine ⟨_, rfl, r.a, r.dx, _, rfl, hobj5, rfl, r, i4 + 1, pn ps, allCallees ps, cas, bs, rfl, hobj5, hlC4, hcalls.mono fun _ _ => CallAt.same off_le, hdP4, hbl, fun c hc => ?_, fun hc => ?_⟩
  · exact (qe ⟨9, c.place⟩ (by rw [hR6, (parts_bad (pn ps) ps).2 c hc] <;> rfl)).mono f5
  obtain ⟨l, hl⟩ := (parts_bad (pn ps) ps).1 hc
  rw [hl] at hR6
  have hR7 : readToks r.toks = .ok ⟨ss, l, es⟩ := hR6
  clear hR6
  -- parts
  replace hdP4 : H5 r.dP = some (.dK (kvOf (pn ps) bs)) := hdP4
  refine ⟨_, rfl, r.a, _, r.dx, _, _, rfl, hobj5, c_Reader T, n_Reader_parts T, rfl, r.dP, _, rfl, hdP4, fun lP hlP => ?_⟩
  have s6 := same_new (o := .lst ((kvOf (pn ps) bs).map fun kv => kv.2)) hlP
  have hlP6 : upd H5 lP (.lst ((kvOf (pn ps) bs).map fun kv => kv.2)) lP = some (.lst (bs.map V.ref)) := by rw [upd_same, kv_snd hbl]
  generalize upd H5 lP (.lst ((kvOf (pn ps) bs).map fun kv => kv.2)) = H6 at s6 hlP6 ⊢
  refine ⟨_, rfl, lP, rfl, ⟨_, SqL.of hlP6⟩, fun D hD => ?_⟩
  have hpl : (pn ps).length = ps.length := List.length_map _
  have hll : (bs.map V.ref).length = (pn ps).length := by rw [List.length_map, hbl]
  refine lc_it walk_list (fun j H' => Same H6 H' ∧ H' D = some (.lst (((pn ps).take j).map sv))) ⟨same_new hD, upd_same⟩ (fun j H' _ h => SqL.of (h.1 _ _ hlP6)) ?_ ?_
  · rintro j x H7 H8 hj ⟨k1, k2⟩ ⟨rfl, hx⟩
    rw [List.getElem?_map] at hx
    obtain ⟨p, hp, rfl⟩ := Option.map_eq_some_iff.mp hx
    obtain ⟨y, hy, dxp, lb, us, hpp, -, -⟩ := hparts.at' hp
    have hpn : (pn ps)[j]? = some y.name := by
      unfold pn
      rw [List.getElem?_map, hy] <;> rfl
    refine ⟨rfl, _, rfl, p, _, dxp, _, _, rfl, k1 _ _ (s6 _ _ (off_le _ _ hpp)), c_Part T, n_Part_name T, rfl, _, k2, ?_, same_upd k1 hD, ?_⟩
    · rw [List.length_map, List.length_take]
      exact Nat.lt_of_le_of_lt (by omega : _ ≤ 10) (by decide)
    · rw [upd_same, List.take_add_one, hpn, Option.toList, List.map_append] <;> rfl
  rintro H7 ⟨k1, k2⟩
  rw [hll, List.take_length] at k2
  have s7 := s6.trans k1
  -- entries
  refine ⟨_, rfl, r.a, _, r.dx, _, _, rfl, s7 _ _ hobj5, c_Reader T, n_Reader_entries T, rfl, r.lE, rfl, ⟨_, SqL.of (s7 _ _ hlE4)⟩, fun D2 hD2 => ?_⟩
  have hel : ((es.map (nm (pn ps))).map sv).length = es.length := by rw [List.length_map, List.length_map]
  refine lc_it walk_list (fun j H' => Same H7 H' ∧ H' D2 = some (.lst ((es.take j).map fun (k : Nat) => V.int k))) ⟨same_new hD2, upd_same⟩ (fun j H' _ h => SqL.of (h.1 _ _ (s7 _ _ hlE4))) ?_ ?_
  · rintro j x H8 H9 hj ⟨g1, g2⟩ ⟨rfl, hx⟩
    rw [List.map_map, List.getElem?_map] at hx
    obtain ⟨k, hk, rfl⟩ := Option.map_eq_some_iff.mp hx
    have hkl := hes k (List.mem_of_getElem? hk)
    have hkn : (pn ps)[k]? = some (nm (pn ps) k) := by
      unfold nm
      rw [List.getElem?_eq_getElem hkl] <;> rfl
    refine ⟨rfl, _, rfl, .inl ⟨rfl, _, SqL.of (g1 _ _ k2)⟩, _, rfl, D, (pn ps).map sv, sv (nm (pn ps) k), k, sv (nm (pn ps) k), rfl, rfl, SqL.of (g1 _ _ k2), rfl, flat_names _, ?_, ?_, ?_, _, g2, ?_, same_upd g1 hD2, ?_⟩
    · rw [List.getElem?_map, hkn] <;> rfl
    · show decide (tx _ = tx _) = true
      exact decide_eq_true rfl
    · intro m z hm hz
      rw [List.getElem?_map] at hz
      obtain ⟨y, hy, rfl⟩ := Option.map_eq_some_iff.mp hz
      show decide (tx y = tx _) = false
      refine decide_eq_false fun e => ?_
      obtain ⟨hml, hme⟩ := List.getElem?_eq_some_iff.mp hy
      obtain ⟨hkl2, hke⟩ := List.getElem?_eq_some_iff.mp hkn
      have := (List.getElem_inj hnd).mp (hme.trans ((tx_inj e).trans hke.symm))
      omega
    · rw [List.length_map, List.length_take]
      exact Nat.lt_of_le_of_lt (by omega : _ ≤ 4) (by decide)
    · rw [upd_same, List.take_add_one, hk, Option.toList, List.map_append] <;> rfl
  rintro H8 ⟨g1, g2⟩
  rw [hel, List.take_length] at g2
  have s8 := s7.trans g1
  -- the program
  refine ⟨_, rfl, r.a, _, r.dx, _, _, rfl, s8 _ _ hobj5, c_Reader T, n_Reader_settings T, rfl, r.dS, _, rfl, s8 _ _ hdS4, fun lS hlS => ?_⟩
  have s9 := same_new (o := .lst ((kvOf (ss.map fun s => s.name) sa).map fun kv => kv.2)) hlS
  have hlS9 : upd H8 lS (.lst ((kvOf (ss.map fun s => s.name) sa).map fun kv => kv.2)) lS = some (.lst (sa.map V.ref)) := by rw [upd_same, kv_snd hsl]
  generalize upd H8 lS (.lst ((kvOf (ss.map fun s => s.name) sa).map fun kv => kv.2)) = H9 at s9 hlS9 ⊢
  have t9 := s8.trans s9
  refine ⟨_, rfl, _, rfl, fun x dx hx hd ne => ?_⟩
  have m10 : ∀ b o, H9 b = some o → upd (upd H9 dx (.own x)) x (.ins (He.ga K "Program") dx []) b = some o := fun b o e => by
    rw [upd_ne (ne_of_none e hx), upd_ne (ne_of_none e hd)]
    exact e
  have hparts9 : AtAll (PartAt K ss H9) bs ps := hparts.mono fun _ _ k => (k.same off_le).same t9
  refine ⟨x, dx, lP, _, _, bs, pn ps, rfl, upd_same, m10 _ _ (s9 _ _ (g1 _ _ (k1 _ _ hlP6))), hnd, by omega, hparts9.mapTo (fun p y k => ?_), fun H' dN e1 e2 e3 => ⟨rfl, ?_⟩⟩
  · obtain ⟨dxp, lb, us, hpp, -, -⟩ := k
    exact ⟨dxp, _, _, m10 _ _ hpp⟩
  have full : Same H9 H' := fun b o e => e2 b o (ne_of_none e hx) (m10 b o e)
  have hnames : l.map (fun x => x.name) = pn ps := parts_names hl
  refine q _ hR7 x H' (f5.trans fun b o e => ?_) ⟨dx, lS, lP, D2, dN, sa, bs, e1, full _ _ hlS9, hsets.mono fun _ _ k => ((k.same off_le).same t9).same full, full _ _ (s9 _ _ (g1 _ _ (k1 _ _ hlP6))), ?_, full _ _ (s9 _ _ g2), ?_⟩
  · obtain ⟨b1, b2⟩ := off_some.mp e
    exact off_some.mpr ⟨b1, full _ _ (t9 _ _ b2)⟩
  · exact parts_solve (p := ⟨ss, l, es⟩) hnames (hparts9.mono fun _ _ k => k.same full) hl
  · show H' dN = some (.dK (nkv (l.map fun x => x.name) 0))
    rw [hnames]
    exact e3
theorem Wf.cons {t : PTok} {ts : Toks} (h : Wf ts) (ht : t.tok ≠ .last) : Wf (t :: ts) := by
  obtain ⟨pre, p, e, k⟩ := h
  refine ⟨t :: pre, p, by rw [e] <;> rfl, fun u hu => ?_⟩
  rcases List.mem_cons.mp hu with rfl | hu
  · exact ht
  · exact k u hu
theorem token_not_last {l : Bytes} {t : BTok} {k : Nat} (h : VakepBase.token l = some (t, k)) : t ≠ .last := by
  unfold VakepBase.token at h
  match l, h with
  | b :: r, h =>
    dsimp only at h
    split at h
    · split at h
      · cases h
      · cases h
        exact fun z => nomatch z
    · split at h
      · cases q : VakepBase.numberOf ((b :: r).takeWhile VakepBase.isDigit) with
        | none => rw [q] at h; cases h
        | some n =>
          rw [q] at h
          cases h
          exact fun z => nomatch z
      · split at h
        · cases h
          exact fun z => nomatch z
        · cases h
theorem lex_wf : ∀ (n a : Nat) (l : Bytes) (ts : Toks), VakepBase.lex n a l = .ok ts → Wf ts ∧ ts.length ≤ l.length + 1
  | 0, a, l, ts, h => by
    cases h
    exact ⟨⟨[], a, rfl, fun t ht => nomatch ht⟩, Nat.le_add_left _ _⟩
  | n + 1, a, [], ts, h => by
    cases h
    exact ⟨⟨[], a, rfl, fun t ht => nomatch ht⟩, Nat.le_refl _⟩
  | n + 1, a, b :: r, ts, h => by
    rw [lex_cons] at h
    split at h
    · obtain ⟨h1, h2⟩ := lex_wf n _ r ts h
      exact ⟨h1, by rw [List.length_cons]; omega⟩
    · split at h
      · obtain ⟨h1, h2⟩ := lex_wf n _ _ ts h
        have q : (r.dropWhile (· != 10)).length ≤ r.length := (List.dropWhile_sublist _).length_le
        exact ⟨h1, by rw [List.length_cons]; omega⟩
      · cases q : VakepBase.token (b :: r) with
        | none => rw [q] at h; cases h
        | some x =>
          obtain ⟨t, k⟩ := x
          rw [q] at h
          dsimp only at h
          cases q2 : VakepBase.lex n (a + k) ((b :: r).drop k) with
          | error f => rw [q2] at h; cases h
          | ok us =>
            rw [q2] at h
            cases h
            obtain ⟨h1, h2⟩ := lex_wf n _ _ us q2
            obtain ⟨k0, k1⟩ := token_len q
            rw [List.length_drop] at h2
            exact ⟨h1.cons (token_not_last q), by rw [List.length_cons]; omega⟩
theorem tokens_wf {b : Bytes} {ts : Toks} (h : VakepBase.tokens b = .ok ts) : Wf ts ∧ ts.length ≤ 5000 := by
  unfold VakepBase.tokens at h
  split at h
  · cases h
  · rename_i hb
    obtain ⟨h1, h2⟩ := lex_wf _ _ _ _ h
    have : ¬ 4096 < b.length := hb
    exact ⟨h1, by omega⟩
abbrev N_read_program : List Str := ["codes"]
abbrev P_read_program : List Str := ["codes"]
theorem sc_read_program : FnScope N_read_program P_read_program (defScope s_read_program) := ⟨rfl, rfl, rfl, by decide +kernel, rfl, by decide +kernel, by decide +kernel⟩
def sp_read_program (K : PySem.W.Frag) : Sp := fun vs H Q E => ∃ (a : Addr) (b : Bytes), vs = [.ref a] ∧ b.length ≤ 10000 ∧ SqL K H a (b.map fun c => V.int c.toNat) ∧
  (∀ f, Vakepa.read b = .error f → ∀ d H', Same H H' → FaultAt H' d f.code f.place → E (.ref (He.ga K "Fault")) (some d) H') ∧
  (∀ p, Vakepa.read b = .ok p → ∀ pa H', Same H H' → ProgAt K H' pa p → Q (.ref pa) H')
theorem ok_read_program (T : Tx K mg) (D_tokens_of : Df P w K mg base (L2.CX P w) (5) (He.ga K "tokens_of") P_tokens_of (sp_tokens_of K)) (D_Reader_init : Df P w K mg base CX0 (1) (He.ma K (He.ga K "Reader") "__init__") P_Reader_init (sp_Reader_init K)) (D_Reader_read : Df P w K mg base (L2.CX P w) (18) (He.ma K (He.ga K "Reader") "read") P_Reader_read (sp_read K)) : Df P w K mg base (L2.CX P w) (19) (He.ga K "read_program") P_read_program (sp_read_program K) := by
  refine dfx_mk (F_read_program T) sc_read_program (fun _ _ _ _ _ _ us hl => match us, hl with | [_], _ => rfl) (fun vs H Q E h => by obtain ⟨_, _, rfl, _⟩ := h; rfl) (fun cdv A outer s H vs Q E hr h => ⟨_, (pss_one (ps_ret (pmx0 D_Reader_read (c_Reader T) (m_Reader_read T) (takes_of rfl rfl rfl rfl) hr (pk D_Reader_init (k_Reader T) (g_Reader T) hr (pa_cons (pfx D_tokens_of (g_tokens_of T) (takes_of rfl rfl rfl rfl) hr (pa_cons (pv 0) pa_nil)) pa_nil))))), ?_⟩)
  obtain ⟨a, b, rfl, hb, ha, qe, q⟩ := h
  refine ⟨_, rfl, a, b, rfl, hb, ha, fun f e d H' s _ k => ?_, fun ts e l ps H1 s1 hl hl1 ht1 => ?_⟩
  · exact qe f (by rw [read_eq, e] <;> rfl) d H' s k
  have hR : Vakepa.read b = readToks ts := by rw [read_eq, e] <;> rfl
  intro x dx hx hd ne
  obtain ⟨hwf, hsm⟩ := tokens_wf e
  have m2 : ∀ b o, H1 b = some o → upd (upd H1 dx (.own x)) x (.ins (He.ga K "Reader") dx []) b = some o := fun b o e => by
    rw [upd_ne (ne_of_none e hx), upd_ne (ne_of_none e hd)]
    exact e
  refine ⟨x, dx, l, ps, ts, rfl, upd_same, m2 _ _ hl1, ht1.same m2, hwf, hsm, fun H2 r era ets h2 k2 k3 => ⟨rfl, ?_⟩⟩
  subst era
  have s2 : Same H1 H2 := fun b o e => k2 b o (ne_of_none e hx) (m2 b o e)
  have hout : ∀ b o, H b = some o → b ∉ r.M := fun b o e z => by
    have e1 := s1 _ _ e
    rcases k3 b z with rfl | k
    · rw [hx] at e1
      cases e1
    · exact nomatch (m2 _ _ e1).symm.trans k
  have back : ∀ {H'}, Same (Off r.M H2) (Off r.M H') → Same H H' := fun {H'} g b o e => off_le _ _ (g b o (off_some.mpr ⟨hout b o e, s2 _ _ (s1 _ _ e)⟩))
  refine ⟨r.a, r.dx, _, rfl, h2.obj, rfl, r, rfl, h2, fun f e d H' g k => qe f ?_ d H' (back g) k, fun p e pa H' g k => q p ?_ pa H' (back g) k⟩
  · rw [hR, ← ets]
    exact e
  · rw [hR, ← ets]
    exact e
end
end Vf

set_option Elab.async false
set_option linter.all false
set_option maxRecDepth 100000
set_option maxHeartbeats 4000000
/-! Assignments, and the names that are made. -/
namespace Vf
open PySem PySem.Spec PyProof.Rows L2
open VakepBase (Bytes)
open Vakepa (Piece Prog showPiece valuesBy valuesOf counts total pieceText madeName)
section
variable {P : Program} {w : World} {K : PySem.W.Frag} {mg : Str → Option Value} {base : Heap}
/-- the pairs of a choice -/
def ckv : List BSet → List Nat → List (Key × V)
  | s :: ss, j :: js => (Sum.inr (tx s.name), sv ((s.values[j]?).getD [])) :: ckv ss js
  | _, _ => []
theorem valV_ckv (b : Bytes) : ∀ {ss : List BSet} {v : List Nat}, v.length = ss.length → valV (ckv ss v) (Sum.inr (tx b) : Key) = (ss.findIdx? fun s => s.name == b).map fun k => sv (((ss[k]?).bind fun s => s.values[v.getD k 0]?).getD [])
  | [], _, _ => by
    unfold ckv
    rfl
  | _ :: _, [], h => nomatch h
  | s :: ss, j :: js, h => by
    show valV ((Sum.inr (tx s.name), sv ((s.values[j]?).getD [])) :: ckv ss js) _ = _
    rw [List.findIdx?_cons]
    by_cases e : s.name = b
    · rw [valV_pos (by rw [e]), if_pos (by rw [e]; exact beq_self_eq_true b)] <;> rfl
    · rw [valV_neg (fun z => e (key_eq.mp z)), if_neg (by simpa using e), valV_ckv b (Nat.succ.inj h)]
      cases ss.findIdx? (fun s => s.name == b) <;> rfl
theorem vals_len : ∀ (l : List Nat) (a : Nat), (valuesBy l a).length = l.length
  | [], _ => rfl
  | n :: r, a => by
    show (valuesBy r (a / n)).length + 1 = _
    rw [vals_len] <;> rfl
theorem vals_lt : ∀ {l : List Nat} {a k n : Nat}, (∀ x ∈ l, 1 ≤ x) → l[k]? = some n → (valuesBy l a).getD k 0 < n
  | [], _, _, _, _, h => by cases h
  | m :: r, a, 0, n, hp, h => by
    cases h
    exact Nat.mod_lt _ (hp m (List.mem_cons_self ..))
  | m :: r, a, k + 1, n, hp, h => vals_lt (l := r) (a := a / m) (k := k) (fun x hx => hp x (List.mem_cons_of_mem _ hx)) h
theorem find_set {p : Prog} (hw : Wfp p) {k : Nat} {S : BSet} (h : p.sets[k]? = some S) : (p.sets.findIdx? fun s => s.name == S.name) = some k := by
  have := find_nodup hw.sn (k := k) (b := S.name) (by rw [List.getElem?_map, h] <;> rfl)
  rw [find_map] at this
  exact this
/-- what a choice says of a piece -/
theorem choice_piece {p : Prog} (hw : Wfp p) {v : List Nat} (hv : v.length = p.sets.length) {q : Piece} (hq : PieceOk p.sets q) : (valV (ckv p.sets v) (Sum.inr (tx (showPiece p q)) : Key)).getD (sv (showPiece p q)) = sv (pieceText p v q) := by
  cases q with
  | set k =>
    have hk : k < p.sets.length := hq
    have e : p.sets[k]? = some p.sets[k] := List.getElem?_eq_getElem hk
    have e2 : showPiece p (.set k) = (p.sets[k]).name := by
      show ((p.sets[k]?).map fun s => s.name).getD [] = _
      rw [e] <;> rfl
    rw [e2, valV_ckv _ hv, find_set hw e] <;> rfl
  | word b =>
    obtain ⟨_, hno⟩ := hq
    have : (p.sets.findIdx? fun s => s.name == b) = none := by
      rw [List.findIdx?_eq_none_iff]
      intro s hs
      cases z : s.name == b with
      | false => rfl
      | true => exact absurd (eq_of_beq z) (hno s hs)
    show (valV (ckv p.sets v) (Sum.inr (tx b) : Key)).getD (sv b) = sv b
    rw [valV_ckv _ hv, this] <;> rfl
theorem ckv_len : ∀ {ss : List BSet} {v : List Nat}, v.length = ss.length → (ckv ss v).length = ss.length
  | [], [], _ => rfl
  | _ :: _, [], h => nomatch h
  | [], _ :: _, h => nomatch h
  | s :: ss, j :: js, h => by
    show (ckv ss js).length + 1 = _
    rw [ckv_len (Nat.succ.inj h)] <;> rfl
theorem ckv_push : ∀ {ss : List BSet} {v : List Nat} {s : BSet} {j : Nat}, v.length = ss.length → ckv (ss ++ [s]) (v ++ [j]) = ckv ss v ++ [(Sum.inr (tx s.name), sv ((s.values[j]?).getD []))]
  | [], [], _, _, _ => rfl
  | _ :: _, [], _, _, h => nomatch h
  | [], _ :: _, _, _, h => nomatch h
  | s :: ss, j :: js, _, _, h => by
    show _ :: ckv (ss ++ [_]) (js ++ [_]) = _
    rw [ckv_push (Nat.succ.inj h)] <;> rfl
theorem any_ckv (b : Bytes) : ∀ {ss : List BSet} {v : List Nat}, v.length = ss.length → ((ckv ss v).any fun kv => decide (kv.1 = (Sum.inr (tx b) : Key))) = ss.any fun s => s.name == b
  | [], _, _ => by
    unfold ckv
    rfl
  | _ :: _, [], h => nomatch h
  | s :: ss, j :: js, h => by
    show ((Sum.inr (tx s.name), sv ((s.values[j]?).getD [])) :: ckv ss js).any _ = _
    rw [List.any_cons, List.any_cons, any_ckv b (Nat.succ.inj h)]
    congr 1
    rw [Bool.eq_iff_iff, decide_eq_true_eq, beq_iff_eq]
    exact key_eq
abbrev N_choice_of : List Str := ["program", "number", "choice", "setting"]
abbrev P_choice_of : List Str := ["program", "number"]
theorem sc_choice_of : FnScope N_choice_of P_choice_of (defScope s_choice_of) := ⟨rfl, rfl, rfl, by decide +kernel, rfl, by decide +kernel, by decide +kernel⟩
def sp_choice_of (K : PySem.W.Frag) : Sp := fun vs H Q _ => ∃ (pa : Addr) (p : Prog) (n : Nat), vs = [.ref pa, .int n] ∧ ProgAt K H pa p ∧ Wfp p ∧ ∀ d H', Same H H' → H d = none → H' d = some (.dK (ckv p.sets (valuesOf p n))) → Q (.ref d) H'
theorem ok_choice_of (T : Tx K mg) : Df P w K mg base CX0 (1) (He.ga K "choice_of") P_choice_of (sp_choice_of K) := by
  refine df_mk (F_choice_of T) sc_choice_of (fun _ _ _ _ _ _ us hl => match us, hl with | [_, _], _ => rfl) (fun vs H Q E h => by obtain ⟨_, _, _, rfl, _⟩ := h; rfl) (fun cdv A outer s H vs Q E hr h => ⟨_, (pss_cons (ps_set (i := 2) sc_choice_of.nd rfl (Or.inl rfl) pe_dnewK) (pss_cons (ps_for PassesOwn.never rfl (pi_list (pe_fld (pv 0) rfl)) (pg_name (i := 3) sc_choice_of.nd rfl (Or.inl rfl)) (pss_cons (ps_dput (hu_of hr) (pv 2) (pe_fld (pv 3) rfl) (pe_ix ix_list (pe_fld (pv 3) rfl) (pe_op op_mod (pv 1) (pe_callB call_len_seq (by rfl) (b_len T) PySem.boot_len (pa_cons (pe_fld (pv 3) rfl) pa_nil))) (fun _ _ => rfl)) rfl) (pss_one (ps_set (i := 1) sc_choice_of.nd rfl (Or.inl rfl) (pe_op op_fdiv (pv 1) (pe_callB call_len_seq (by rfl) (b_len T) PySem.boot_len (pa_cons (pe_fld (pv 3) rfl) pa_nil))))))) (pss_one (ps_ret (pv 2))))), ?_⟩)
  obtain ⟨pa, p, n, rfl, ⟨dx, lS, lP, lE, dN, sa, pa', e1, e2, e3, e4, e5, e6, e7⟩, hw, q⟩ := h
  refine fun d hd => ?_
  have hsl : (sa.map V.ref).length = p.sets.length := by rw [List.length_map, e3.len]
  have hcl : (counts p).length = p.sets.length := List.length_map _
  refine ⟨_, rfl, pa, _, dx, _, _, rfl, same_new hd _ _ e1, c_Program T, n_Program_settings T, rfl, lS, rfl, ⟨_, SqL.of (same_new hd _ _ e2)⟩, ?_⟩
  refine for_it walk_list (fun i σ H' => ∃ (m : Nat) (x : Option V) (vs : List Nat), σ = [some (.ref pa), some (.int m), some (.ref d), x] ∧ Same H H' ∧ H' d = some (.dK (ckv (p.sets.take i) vs)) ∧ vs.length = i ∧ valuesOf p n = vs ++ valuesBy ((counts p).drop i) m)
    ⟨n, none, [], rfl, same_new hd, upd_same, rfl, rfl⟩ (fun i σ H' _ ⟨_, _, _, _, k, _⟩ => SqL.of (k _ _ e2)) ?_ ?_
  · rintro i x σ H1 H2 hi ⟨m, y, vs, rfl, k1, k2, k3, k4⟩ ⟨rfl, hx⟩
    rw [List.getElem?_map] at hx
    obtain ⟨pS, hp, rfl⟩ := Option.map_eq_some_iff.mp hx
    obtain ⟨S, hS, dxS, lw, w1, w2⟩ := e3.at' hp
    have hS2 := hw.sg S (List.mem_of_getElem? hS)
    have hc : (counts p)[i]? = some S.values.length := by
      unfold counts
      rw [List.getElem?_map, hS] <;> rfl
    have hvl : (S.values.map sv).length = S.values.length := List.length_map _
    have hdrop : (counts p).drop i = S.values.length :: (counts p).drop (i + 1) := drop_get hc
    have hpos := hS2.2.1
    have hmod : m % S.values.length < S.values.length := Nat.mod_lt _ hpos
    have hlen : vs.length = (p.sets.take i).length := by
      rw [k3, List.length_take]
      omega
    have hnew : ((p.sets.take i).any fun s => s.name == S.name) = false := by
      rw [← Bool.not_eq_true, List.any_eq_true]
      rintro ⟨s, hs, e⟩
      obtain ⟨j, hj, hje⟩ := List.mem_iff_getElem.mp hs
      rw [List.length_take] at hj
      rw [List.getElem_take] at hje
      have h1 := find_set hw (k := j) (S := s) (by rw [List.getElem?_eq_getElem (by omega), hje])
      rw [eq_of_beq e, find_set hw hS] at h1
      cases h1
      omega
    refine ⟨_, rfl, pS, _, dxS, _, _, rfl, k1 _ _ w1, c_Setting T, n_Setting_words T, rfl, _, rfl, _, rfl, pS, _, dxS, _, _, rfl, k1 _ _ w1, c_Setting T, n_Setting_words T, rfl, lw, _, rfl, .inl (SqL.of (k1 _ _ w2)), _, _, rfl, rfl, (by rw [hvl]; omega), ?_⟩
    rw [hvl]
    refine ⟨lw, _, _, sv (S.values[m % S.values.length]), rfl, rfl, SqL.of (k1 _ _ w2), ?_, ?_⟩
    · rw [show (m : Int) % (S.values.length : Int) = ((m % S.values.length : Nat) : Int) from rfl]
      refine atI_nat ?_
      rw [List.getElem?_map, List.getElem?_eq_getElem hmod] <;> rfl
    refine ⟨_, rfl, _, rfl, pS, _, dxS, _, _, rfl, k1 _ _ w1, c_Setting T, n_Setting_name T, rfl, d, _, rfl, DPut.k (k := Sum.inr (tx S.name)) k2 ?_, ?_⟩
    · rw [ckv_len hlen, List.length_take]
      exact Nat.lt_of_le_of_lt (Nat.le_trans (Nat.min_le_right _ _) hw.s3) (by decide)
    have hput : putK (ckv (p.sets.take i) vs) (Sum.inr (tx S.name) : Key) (sv (S.values[m % S.values.length])) = ckv (p.sets.take (i + 1)) (vs ++ [m % S.values.length]) := by
      unfold putK
      rw [any_ckv _ hlen, hnew, List.take_add_one, hS]
      show _ = ckv (p.sets.take i ++ [S]) _
      rw [ckv_push hlen, List.getElem?_eq_getElem hmod] <;> rfl
    rw [hput]
    have hd1 : H d = none := hd
    have k1' := same_upd (o := .dK (ckv (p.sets.take (i + 1)) (vs ++ [m % S.values.length]))) k1 hd
    refine ⟨_, rfl, _, rfl, pS, _, dxS, _, _, rfl, k1' _ _ w1, c_Setting T, n_Setting_words T, rfl, lw, _, rfl, .inl (SqL.of (k1' _ _ w2)), _, _, rfl, rfl, ⟨by rw [hvl]; omega, by rw [hvl]; have := hS2.2.2.1; omega⟩, ?_⟩
    rw [hvl]
    refine ⟨m / S.values.length, _, vs ++ [m % S.values.length], rfl, k1', upd_same, by rw [List.length_append, k3] <;> rfl, ?_⟩
    rw [k4, hdrop, List.append_assoc] <;> rfl
  · rintro σ H1 ⟨m, y, vs, rfl, k1, k2, k3, k4⟩
    rw [hsl, List.take_length] at k2
    refine ⟨_, rfl, q d H1 k1 hd ?_⟩
    rw [hsl, ← hcl, List.drop_length] at k4
    rw [k4, show valuesBy [] m = [] from rfl, List.append_nil]
    exact k2
abbrev N_choices_of : List Str := ["program", "count", "setting", "number"]
abbrev P_choices_of : List Str := ["program"]
theorem sc_choices_of : FnScope N_choices_of P_choices_of (defScope s_choices_of) := ⟨rfl, rfl, rfl, by decide +kernel, rfl, by decide +kernel, by decide +kernel⟩
/-- the choice of the a-th assignment lies at d -/
def ChAt (p : Prog) (H : Hp) (d : Addr) (a : Nat) : Prop := H d = some (.dK (ckv p.sets (valuesOf p a)))
theorem ChAt.same {p : Prog} {H H' : Hp} (s : Same H H') {d : Addr} {a : Nat} (h : ChAt p H d a) : ChAt p H' d a := s _ _ h
def sp_choices_of (K : PySem.W.Frag) : Sp := fun vs H Q _ => ∃ (pa : Addr) (p : Prog), vs = [.ref pa] ∧ ProgAt K H pa p ∧ Wfp p ∧ ∀ l ds H', Same H H' → H l = none → H' l = some (.lst (ds.map V.ref)) → AtAll (ChAt p H') ds (List.range (total p)) → (∀ d ∈ ds, H d = none) → Q (.ref l) H'
theorem total_le {p : Prog} (hw : Wfp p) : total p ≤ 64 ∧ 1 ≤ total p := by
  have h : ∀ (l : List Nat) (a : Nat), (∀ x ∈ l, 1 ≤ x ∧ x ≤ 4) → a ≤ l.foldl (fun x y => x * y) a ∧ l.foldl (fun x y => x * y) a ≤ a * 4 ^ l.length := by
    intro l
    induction l with
    | nil => intro a _; exact ⟨Nat.le_refl _, by simp⟩
    | cons n r ih =>
      intro a hx
      obtain ⟨h1, h2⟩ := hx n (List.mem_cons_self ..)
      obtain ⟨i1, i2⟩ := ih (a * n) fun x hx' => hx x (List.mem_cons_of_mem _ hx')
      rw [List.foldl_cons]
      refine ⟨Nat.le_trans (Nat.le_mul_of_pos_right a h1) i1, Nat.le_trans i2 ?_⟩
      rw [List.length_cons, Nat.pow_succ, Nat.mul_comm (4 ^ r.length) 4, ← Nat.mul_assoc]
      exact Nat.mul_le_mul_right _ (Nat.mul_le_mul_left _ h2)
  have hc : ∀ x ∈ counts p, 1 ≤ x ∧ x ≤ 4 := fun x hx => by
    obtain ⟨s, hs, rfl⟩ := List.mem_map.mp hx
    obtain ⟨_, h1, h2, _⟩ := hw.sg s hs
    exact ⟨h1, h2⟩
  obtain ⟨h1, h2⟩ := h (counts p) 1 hc
  have hl : (counts p).length ≤ 3 := by
    show (p.sets.map _).length ≤ 3
    rw [List.length_map]
    exact hw.s3
  have : 4 ^ (counts p).length ≤ 4 ^ 3 := Nat.pow_le_pow_right (by decide) hl
  exact ⟨by unfold total; omega, h1⟩
theorem ok_choices_of (T : Tx K mg) (D_choice_of : Df P w K mg base CX0 (1) (He.ga K "choice_of") P_choice_of (sp_choice_of K)) : Df P w K mg base CX0 (2) (He.ga K "choices_of") P_choices_of (sp_choices_of K) := by
  refine df_mk (F_choices_of T) sc_choices_of (fun _ _ _ _ _ _ us hl => match us, hl with | [_], _ => rfl) (fun vs H Q E h => by obtain ⟨_, _, rfl, _⟩ := h; rfl) (fun cdv A outer s H vs Q E hr h => ⟨_, (pss_cons (ps_set (i := 1) sc_choices_of.nd rfl (Or.inl rfl) pe_int) (pss_cons (ps_for PassesOwn.never rfl (pi_list (pe_fld (pv 0) rfl)) (pg_name (i := 2) sc_choices_of.nd rfl (Or.inl rfl)) (pss_one (ps_aug (i := 1) sc_choices_of.nd rfl (Or.inl rfl) (pe_callB call_len_seq (by rfl) (b_len T) PySem.boot_len (pa_cons (pe_fld (pv 2) rfl) pa_nil)) iop_mul))) (pss_one (ps_ret (pe_lc rfl sc_choices_of.nd (own := [("number", 3)]) (pi_range1 (by rfl) (b_range T) (pa_cons (pv 1) pa_nil)) (blkOk_by (own := [("number", 3)]) (N := N_choices_of) (sc := defScope s_choices_of) (by decide +kernel)) (fun _ _ _ _ _ => pg_name (i := 3) sc_choices_of.nd rfl (Or.inl rfl)) (fun _ _ _ _ _ => pts_nil) (fun _ _ _ _ _ => (pf D_choice_of (g_choice_of T) hr (pa_cons (pv 0) (pa_cons (pv 3) pa_nil))))))))), ?_⟩)
  obtain ⟨pa, p, rfl, hP, hw, q⟩ := h
  obtain ⟨dx, lS, lP, lE, dN, sa, pa', e1, e2, e3, e4, e5, e6, e7⟩ := id hP
  have hsl : (sa.map V.ref).length = p.sets.length := by rw [List.length_map, e3.len]
  have hcl : (counts p).length = p.sets.length := List.length_map _
  obtain ⟨ht, ht1⟩ := total_le hw
  refine ⟨_, rfl, pa, _, dx, _, _, rfl, e1, c_Program T, n_Program_settings T, rfl, lS, rfl, ⟨_, SqL.of e2⟩, ?_⟩
  refine for_it walk_list (fun i σ H' => ∃ (x : Option V), σ = [some (.ref pa), some (.int ((((counts p).take i).foldl (fun x y => x * y) 1 : Nat) : Int)), x, none] ∧ H' = H)
    ⟨none, rfl, rfl⟩ (fun i σ H' _ ⟨_, _, k⟩ => by rw [k]; exact SqL.of e2) ?_ ?_
  · rintro i x σ H1 H2 hi ⟨y, rfl, rfl⟩ ⟨rfl, hx⟩
    rw [List.getElem?_map] at hx
    obtain ⟨pS, hp, rfl⟩ := Option.map_eq_some_iff.mp hx
    obtain ⟨S, hS, dxS, lw, w1, w2⟩ := e3.at' hp
    have hS2 := hw.sg S (List.mem_of_getElem? hS)
    have hc : (counts p)[i]? = some S.values.length := by
      unfold counts
      rw [List.getElem?_map, hS] <;> rfl
    have hvl : (S.values.map sv).length = S.values.length := List.length_map _
    refine ⟨_, rfl, _, rfl, pS, _, dxS, _, _, rfl, w1, c_Setting T, n_Setting_words T, rfl, lw, _, rfl, .inl (SqL.of w2), _, _, rfl, rfl, .inr ⟨by rw [hvl]; omega, by rw [hvl]; have := hS2.2.2.1; omega⟩, ?_⟩
    rw [hvl]
    refine ⟨some (.ref pS), ?_, rfl⟩
    rw [List.take_add_one, hc, Option.toList, List.foldl_append]
    rfl
  · rintro σ H1 ⟨y, rfl, rfl⟩
    rw [hsl, ← hcl, List.take_length]
    rw [show (counts p).foldl (fun x y => x * y) 1 = total p from rfl]
    refine ⟨_, rfl, _, rfl, by omega, by omega, fun D hD => ?_⟩
    have htn : ((total p : Int)).toNat = total p := rfl
    rw [htn]
    refine lc_it walk_range (fun j H' => ∃ ds : List Addr, Same H1 H' ∧ H' D = some (.lst (ds.map V.ref)) ∧ AtAll (ChAt p H') ds (List.range j) ∧ ∀ d ∈ ds, H1 d = none) ⟨[], same_new hD, upd_same, .nil, fun d hd => nomatch hd⟩ (fun _ _ _ _ => trivial) ?_ ?_
    · rintro j x H2 H3 hj ⟨ds, k1, k2, k3, k4⟩ ⟨rfl, rfl⟩
      have ez : (0 : Int) + (j : Int) = j := Int.zero_add _
      rw [show (fun i : Nat => V.int ((0 : Int) + (i : Int))) j = V.int (j : Int) from congrArg V.int ez]
      refine ⟨rfl, _, rfl, _, rfl, pa, p, j, rfl, hP.same k1, hw, fun d H4 g1 g2 g3 => ?_⟩
      have hdl := k3.len
      rw [List.length_range] at hdl
      have g4 := g1 _ _ k2
      refine ⟨_, g4, ?_, ds ++ [d], same_upd (k1.trans g1) hD, by rw [upd_same, List.map_append] <;> rfl, ?_⟩
      · rw [List.length_map, hdl]
        exact Nat.lt_of_le_of_lt (by omega : _ ≤ 64) (by decide)
      · have hne : ∀ {b : Addr} {kvs}, H4 b = some (.dK kvs) → upd H4 D (.lst (ds.map V.ref ++ [.ref d])) b = some (.dK kvs) := fun {b} {kvs} e => by
          rw [upd_ne (ne_kind e g4 (by intro z; cases z))]
          exact e
        rw [List.range_succ]
        refine ⟨(k3.mono fun b a e => hne (g1 _ _ e)).push (hne g3), fun b hb => ?_⟩
        rcases List.mem_append.mp hb with hb | hb
        · exact k4 b hb
        · rw [List.mem_singleton.mp hb]
          exact k1.free g2
    · rintro H2 ⟨ds, k1, k2, k3, k4⟩
      exact q D ds H2 k1 hD k2 k3 k4
abbrev N_made_name : List Str := ["make", "choice", "piece"]
abbrev P_made_name : List Str := ["make", "choice"]
theorem sc_made_name : FnScope N_made_name P_made_name (defScope s_made_name) := ⟨rfl, rfl, rfl, by decide +kernel, rfl, by decide +kernel, by decide +kernel⟩
def sp_made_name (K : PySem.W.Frag) : Sp := fun vs H Q _ => ∃ (m dx l d : Addr) (p : Prog) (a : Nat) (ps : List Piece), vs = [.ref m, .ref d] ∧ Wfp p ∧ H m = some (.ins (He.ga K "Make") dx [("pieces", .ref l)]) ∧ H l = some (.lst (ps.map fun q => sv (showPiece p q))) ∧
  ChAt p H d a ∧ ps.length ≤ 3 ∧ (∀ q ∈ ps, PieceOk p.sets q) ∧ ∀ H', Same H H' → Q (sv (madeName p (valuesOf p a) ps)) H'
theorem vo_len (p : Prog) (a : Nat) : (valuesOf p a).length = p.sets.length := by
  unfold valuesOf
  rw [vals_len]
  exact List.length_map _
theorem vo_lt {p : Prog} (hw : Wfp p) (a : Nat) {k : Nat} {S : BSet} (h : p.sets[k]? = some S) : (valuesOf p a).getD k 0 < S.values.length := by
  unfold valuesOf
  refine vals_lt (fun x hx => ?_) (by unfold counts; rw [List.getElem?_map, h] <;> rfl)
  obtain ⟨s, hs, rfl⟩ := List.mem_map.mp hx
  exact (hw.sg s hs).2.1
/-- texts one behind the other -/
theorem join_tx (l : List Bytes) : Txt.join "" (l.map tx) = tx (l.flatMap id) := by
  have e : l.map tx = (l.map fun b => b.map UInt8.toNat).map SX.S := by
    rw [List.map_map] <;> rfl
  have e0 : ("" : Str) = SX.S [] := by decide +kernel
  rw [e, e0, SX.join_S]
  have : ∀ l : List Bytes, TL.joinL [] (l.map fun b => b.map UInt8.toNat) = (l.flatMap id).map UInt8.toNat := by
    intro l
    induction l with
    | nil => rfl
    | cons c r ih => cases r with
      | nil =>
        show c.map UInt8.toNat = _
        rw [List.flatMap_cons, List.flatMap_nil, List.append_nil] <;> rfl
      | cons d r =>
        show c.map UInt8.toNat ++ ([] ++ TL.joinL [] ((d :: r).map fun b => b.map UInt8.toNat)) = _
        rw [ih]
        simp [List.flatMap_cons]
  rw [this] <;> rfl
theorem piece_len {p : Prog} (hw : Wfp p) (a : Nat) {q : Piece} (hq : PieceOk p.sets q) : (pieceText p (valuesOf p a) q).length ≤ 16 := by
  cases q with
  | word b => exact hq.1
  | set k =>
    have hk : k < p.sets.length := hq
    have e : p.sets[k]? = some p.sets[k] := List.getElem?_eq_getElem hk
    have hlt := vo_lt hw a e
    have hS := hw.sg _ (List.mem_of_getElem? e)
    show ((((p.sets[k]?).bind fun s => s.values[(valuesOf p a).getD k 0]?).getD [])).length ≤ 16
    rw [e]
    show (((p.sets[k]).values[(valuesOf p a).getD k 0]?).getD []).length ≤ 16
    rw [List.getElem?_eq_getElem hlt]
    exact hS.2.2.2.2 _ (List.getElem_mem hlt)
theorem ok_made_name (T : Tx K mg) : Df P w K mg base CX0 (1) (He.ga K "made_name") P_made_name (sp_made_name K) := by
  refine df_mk (F_made_name T) sc_made_name (fun _ _ _ _ _ _ us hl => match us, hl with | [_, _], _ => rfl) (fun vs H Q E h => by obtain ⟨_, _, _, _, _, _, _, rfl, _⟩ := h; rfl) (fun cdv A outer s H vs Q E hr h => ⟨_, (pss_one (ps_ret (pe_join pe_str (pe_lc rfl sc_made_name.nd (own := [("piece", 2)]) (pi_list (pe_fld (pv 0) rfl)) (blkOk_by (own := [("piece", 2)]) (N := N_made_name) (sc := defScope s_made_name) (by decide +kernel)) (fun _ _ _ _ _ => pg_name (i := 2) sc_made_name.nd rfl (Or.inl rfl)) (fun _ _ _ _ _ => pts_nil) (fun _ _ _ _ _ => (pe_dget2 (hu_of hr) (pv 1) (pv 2) (pv 2) ⟨rfl, rfl, rfl, rfl⟩)))))), ?_⟩)
  obtain ⟨m, dx, l, d, p, a, ps, rfl, hw, hm, hl, hd, h3, hg, q⟩ := h
  have hv := vo_len p a
  refine ⟨⟨_, rfl⟩, _, rfl, m, _, dx, _, _, rfl, hm, c_Make T, n_Make_pieces T, rfl, l, rfl, ⟨_, SqL.of hl⟩, fun D hD => ?_⟩
  refine lc_it walk_list (fun j H' => Same H H' ∧ H' D = some (.lst ((ps.take j).map fun q => sv (pieceText p (valuesOf p a) q)))) ⟨same_new hD, upd_same⟩ (fun j H' _ k => SqL.of (k.1 _ _ hl)) ?_ ?_
  · rintro j x H1 H2 hj ⟨k1, k2⟩ ⟨rfl, hx⟩
    rw [List.getElem?_map] at hx
    obtain ⟨y, hy, rfl⟩ := Option.map_eq_some_iff.mp hx
    have hd1 := k1 _ _ hd
    refine ⟨rfl, _, rfl, d, rfl, .inl ⟨_, .inl hd1⟩, _, rfl, _, rfl, _, DGet.k (k := Sum.inr (tx (showPiece p y))) hd1, _, k2, ?_, same_upd k1 hD, ?_⟩
    · rw [List.length_map, List.length_take]
      exact Nat.lt_of_le_of_lt (by omega : _ ≤ 3) (by decide)
    · rw [upd_same, List.take_add_one, hy, choice_piece hw hv (hg y (List.mem_of_getElem? hy)), Option.toList, List.map_append] <;> rfl
  · rintro H1 ⟨k1, k2⟩
    rw [List.length_map, List.take_length] at k2
    have hm2 : ((ps.map (pieceText p (valuesOf p a))).map tx).map V.str = ps.map fun q => sv (pieceText p (valuesOf p a) q) := by
      rw [List.map_map, List.map_map] <;> rfl
    refine ⟨_, _, (ps.map (pieceText p (valuesOf p a))).map tx, rfl, rfl, .inl (SqL.of (by rw [hm2]; exact k2)), ?_, ?_⟩
    · rw [show ("" : Str).length = 0 by decide +kernel, Nat.mul_zero, Nat.add_zero, List.map_map, List.map_map]
      have : ∀ l : List Piece, (∀ q ∈ l, PieceOk p.sets q) → (l.map (((fun x : Str => x.length) ∘ tx) ∘ pieceText p (valuesOf p a))).sum ≤ 16 * l.length := by
        intro l
        induction l with
        | nil => intro _; exact Nat.zero_le _
        | cons y r ih =>
          intro hh
          rw [List.map_cons, List.sum_cons, List.length_cons]
          have h1 := ih fun q hq => hh q (List.mem_cons_of_mem _ hq)
          have h2 := piece_len hw a (hh y (List.mem_cons_self ..))
          show (tx (pieceText p (valuesOf p a) y)).length + _ ≤ _
          rw [tx_len]
          omega
      have := this ps hg
      omega
    · rw [join_tx, List.flatMap_map]
      exact q _ k1
abbrev N_holds : List Str := ["when", "choice"]
abbrev P_holds : List Str := ["when", "choice"]
theorem sc_holds : FnScope N_holds P_holds (defScope s_holds) := ⟨rfl, rfl, rfl, by decide +kernel, rfl, by decide +kernel, by decide +kernel⟩
def sp_holds (K : PySem.W.Frag) : Sp := fun vs H Q _ => ∃ (m dx d : Addr) (b : V) (p : Prog) (a x v : Nat) (S : BSet), vs = [.ref m, .ref d] ∧ Wfp p ∧ H m = some (.ins (He.ga K "When") dx [("setting", sv (showPiece p (.set x))), ("word", sv (valueT p.sets x v)), ("body", b)]) ∧
  ChAt p H d a ∧ p.sets[x]? = some S ∧ v < S.values.length ∧ Q (.bl (decide ((valuesOf p a).getD x 0 = v))) H
theorem ok_holds (T : Tx K mg) : Df P w K mg base CX0 (1) (He.ga K "holds") P_holds (sp_holds K) := by
  refine df_mk (F_holds T) sc_holds (fun _ _ _ _ _ _ us hl => match us, hl with | [_, _], _ => rfl) (fun vs H Q E h => by obtain ⟨_, _, _, _, _, _, _, _, _, rfl, _⟩ := h; rfl) (fun cdv A outer s H vs Q E hr h => ⟨_, (pss_one (ps_ret (pe_cmpR op_eq (pe_dget (hu_of hr) (pv 1) (pe_fld (pv 0) rfl) (fun _ _ => rfl)) (pe_fld (pv 0) rfl) (nomark _)))), ?_⟩)
  obtain ⟨m, dx, d, b, p, a, x, v, S, rfl, hw, hm, hd, hS, hv, q⟩ := h
  have e2 : showPiece p (.set x) = S.name := by
    show ((p.sets[x]?).map fun s => s.name).getD [] = _
    rw [hS] <;> rfl
  have hlt := vo_lt hw a hS
  have hget : valV (ckv p.sets (valuesOf p a)) (Sum.inr (tx (showPiece p (.set x))) : Key) = some (sv (S.values[(valuesOf p a).getD x 0])) := by
    rw [e2, valV_ckv _ (vo_len p a), find_set hw hS]
    show some (sv (((p.sets[x]?).bind fun s => s.values[(valuesOf p a).getD x 0]?).getD [])) = _
    rw [hS]
    show some (sv ((S.values[(valuesOf p a).getD x 0]?).getD [])) = _
    rw [List.getElem?_eq_getElem hlt] <;> rfl
  have hword : valueT p.sets x v = S.values[v] := by
    unfold valueT
    rw [hS]
    show (S.values[v]?).getD [] = _
    rw [List.getElem?_eq_getElem hv] <;> rfl
  have hDG : DGet H d (sv (showPiece p (.set x))) (some (sv (S.values[(valuesOf p a).getD x 0]))) := by
    rw [← hget]
    exact DGet.k (k := Sum.inr (tx (showPiece p (.set x)))) hd
  refine ⟨_, rfl, _, rfl, m, _, dx, _, _, rfl, hm, c_When T, n_When_setting T, rfl, d, _, rfl, hDG, _, rfl, m, _, dx, _, _, rfl, hm, c_When T, n_When_word T, rfl, rfl, ?_⟩
  rw [hword]
  have : decide (sv (S.values[(valuesOf p a).getD x 0]) = sv (S.values[v])) = decide ((valuesOf p a).getD x 0 = v) := by
    rw [Bool.eq_iff_iff, decide_eq_true_eq, decide_eq_true_eq]
    constructor
    · intro e
      have e' := tx_inj (str_v.mp e)
      exact (List.getElem_inj (hw.sg S (List.mem_of_getElem? hS)).2.2.2.1).mp e'
    · intro e
      simp only [e]
  rw [this]
  exact q
end
end Vf

set_option Elab.async false
set_option linter.all false
set_option maxRecDepth 100000
set_option maxHeartbeats 4000000
/-! Runs in the heap: the small defs. -/
namespace Vf
open PySem PySem.Spec PyProof.Rows L2
open VakepBase (Bytes)
open Vakepa (Piece Prog showPiece valuesBy valuesOf counts total pieceText madeName partNamed bodyOf mark)
section
variable {P : Program} {w : World} {K : PySem.W.Frag} {mg : Str → Option Value} {base : Heap}
/-- ints as values -/
abbrev iv (l : List Nat) : List V := l.map fun (k : Nat) => V.int k
theorem ints_in (k : Nat) (l : List Nat) : inV (.int k) (iv l) = l.contains k := by
  unfold inV iv
  rw [List.any_map, List.contains_eq_any_beq]
  congr 1
  funext x
  show ((x : Int) == (k : Int)) = (k == x)
  rw [Bool.eq_iff_iff, beq_iff_eq, beq_iff_eq]
  omega
theorem flat_ints (l : List Nat) : (iv l).all flatV = true := by
  unfold iv
  rw [List.all_map, List.all_eq_true]
  exact fun _ _ => rfl
theorem same_off {M : List Addr} {H H' : Hp} (h : Same H H') (n : ∀ b ∈ M, H b = none) : Same H (Off M H') := fun b o e => off_some.mpr ⟨(fun z => nomatch (n b z).symm.trans e), h b o e⟩
/-- a list or a tuple of these ints -/
def AwayAt (H : Hp) (a : Addr) (g : List Nat) : Prop := H a = some (.lst (iv g)) ∨ H a = some (.tup (iv g))
theorem AwayAt.same {H H' : Hp} (s : Same H H') {a : Addr} {g : List Nat} (h : AwayAt H a g) : AwayAt H' a g := h.elim (fun z => .inl (s _ _ z)) fun z => .inr (s _ _ z)
theorem AwayAt.sq {H : Hp} {a : Addr} {g : List Nat} (h : AwayAt H a g) : SqL K H a (iv g) ∨ SqT K H a (iv g) := h.elim (fun z => .inl (SqL.of z)) fun z => .inr (SqT.of z)
/-- the pairs of a dict of parts that are entered -/
def entKv (l : List Nat) : List (Key × V) := l.map fun (k : Nat) => (Sum.inl (k : Int), .bl true)
theorem any_ent (k : Nat) (l : List Nat) : ((entKv l).any fun kv => decide (kv.1 = (Sum.inl (k : Int) : Key))) = l.contains k := by
  unfold entKv
  rw [List.any_map, List.contains_eq_any_beq]
  congr 1
  funext x
  show decide ((Sum.inl (x : Int) : Key) = Sum.inl (k : Int)) = (k == x)
  rw [Bool.eq_iff_iff, decide_eq_true_eq, beq_iff_eq]
  constructor
  · intro h
    injection h with h
    omega
  · intro h
    rw [h]
theorem put_ent (k : Nat) (l : List Nat) : putK (entKv l) (Sum.inl (k : Int)) (.bl true) = entKv (mark k l) := by
  unfold putK mark
  rw [any_ent]
  split
  · unfold entKv
    rw [List.map_map]
    refine List.map_congr_left fun x _ => ?_
    show (if _ then _ else _) = _
    split <;> rfl
  · unfold entKv
    rw [List.map_append] <;> rfl
/-- a run's things -/
structure Rn where
  a : Addr
  dx : Addr
  pa : Addr
  ch : Addr
  aw : Addr
  en : Addr
  p : Prog
  asg : Nat
  gone : List Nat
def Rn.M (r : Rn) : List Addr := [r.a, r.en]
abbrev Rn.v (r : Rn) : Vakepa.Values := valuesOf r.p r.asg
def rnF (r : Rn) (wi n fin : Nat) : List (Str × V) := [("program", .ref r.pa), ("choice", .ref r.ch), ("away", .ref r.aw), ("entered", .ref r.en), ("within", .int wi), ("done", .int n), ("ending", .int fin)]
structure RunS (K : PySem.W.Frag) (H : Hp) (r : Rn) (wi : Nat) (s : Big) : Prop where
  obj : H r.a = some (.ins (He.ga K "Run") r.dx (rnF r wi s.n s.fin))
  ent : H r.en = some (.dK (entKv s.ent))
  ok : EntOk r.p s.ent
  le : s.n ≤ 100
  wf : Wfp r.p
  prog : ProgAt K (Off r.M H) r.pa r.p
  cho : ChAt r.p (Off r.M H) r.ch r.asg
  away : AwayAt (Off r.M H) r.aw r.gone
theorem RunS.ne {H : Hp} {r : Rn} {wi : Nat} {s : Big} (h : RunS K H r wi s) : r.a ≠ r.en := ne_kind h.obj h.ent (by intro z; cases z)
/-- what the frame tells -/
abbrev Frm (r : Rn) (H H' : Hp) : Prop := Same (Off r.M H) (Off r.M H')
theorem RunS.of {H H' : Hp} {r : Rn} {wi wi' : Nat} {s s' : Big} (h : RunS K H r wi s) (f : Frm r H H') (o : H' r.a = some (.ins (He.ga K "Run") r.dx (rnF r wi' s'.n s'.fin))) (e : H' r.en = some (.dK (entKv s'.ent))) (ok : EntOk r.p s'.ent) (le : s'.n ≤ 100) : RunS K H' r wi' s' :=
  ⟨o, e, ok, le, h.wf, h.prog.same f, h.cho.same f, h.away.same f⟩
theorem frm_obj (r : Rn) (H : Hp) (o : HO) : Frm r H (upd H r.a o) := by
  unfold Frm
  rw [off_upd (by simp [Rn.M])]
  exact Same.refl _
theorem frm_ent (r : Rn) (H : Hp) (o : HO) : Frm r H (upd H r.en o) := by
  unfold Frm
  rw [off_upd (by simp [Rn.M])]
  exact Same.refl _
/-- the object alone is written -/
theorem RunS.obj_put {H : Hp} {r : Rn} {wi wi' n fin : Nat} {s : Big} (h : RunS K H r wi s) (le : n ≤ 100) : RunS K (upd H r.a (.ins (He.ga K "Run") r.dx (rnF r wi' n fin))) r wi' ⟨s.ent, n, fin⟩ :=
  h.of (frm_obj r H _) upd_same (by rw [upd_ne (Ne.symm h.ne)]; exact h.ent) h.ok le
theorem RunS.same {H H' : Hp} {r : Rn} {wi : Nat} {s : Big} (h : RunS K H r wi s) (f : Same H H') : RunS K H' r wi s := h.of (off_same f) (f _ _ h.obj) (f _ _ h.ent) h.ok h.le
abbrev N_Run_init : List Str := ["self", "program", "choice", "away", "entered"]
abbrev P_Run_init : List Str := ["self", "program", "choice", "away", "entered"]
theorem sc_Run_init : FnScope N_Run_init P_Run_init (defScope s_Run_init) := ⟨rfl, rfl, rfl, by decide +kernel, rfl, by decide +kernel, by decide +kernel⟩
def sp_Run_init (K : PySem.W.Frag) : Sp := fun vs H Q _ => ∃ (a dx : Addr) (u1 u2 u3 u4 : V), vs = [.ref a, u1, u2, u3, u4] ∧ H a = some (.ins (He.ga K "Run") dx []) ∧
  ∀ H' : Hp, H' a = some (.ins (He.ga K "Run") dx [("program", u1), ("choice", u2), ("away", u3), ("entered", u4), ("within", .int 0), ("done", .int 0), ("ending", .int 0)]) → (∀ b, b ≠ a → H' b = H b) → Q .non H'
theorem ok_Run_init (T : Tx K mg) : Df P w K mg base CX0 (1) (He.ma K (He.ga K "Run") "__init__") P_Run_init (sp_Run_init K) := by
  refine df_mk (F_Run_init T) sc_Run_init (fun _ _ _ _ _ _ us hl => match us, hl with | [_, _, _, _, _], _ => rfl) (fun vs H Q E h => by obtain ⟨_, _, _, _, _, _, rfl, _⟩ := h; rfl) (fun cdv A outer s H vs Q E hr h => ⟨_, (pss_cons (ps_fld (pv 0) (pv 1) rfl) (pss_cons (ps_fld (pv 0) (pv 2) rfl) (pss_cons (ps_fld (pv 0) (pv 3) rfl) (pss_cons (ps_fld (pv 0) (pv 4) rfl) (pss_cons (ps_fld (pv 0) pe_int rfl) (pss_cons (ps_fld (pv 0) pe_int rfl) (pss_one (ps_fld (pv 0) (pg (i_WELL T)) rfl)))))))), ?_⟩)
  obtain ⟨a, dx, u1, u2, u3, u4, rfl, ha, q⟩ := h
  refine ⟨_, rfl, _, rfl, a, _, dx, _, rfl, ha, c_Run T, n_Run_program T, (by show 0 < 1000; decide), ?_⟩
  refine ⟨_, rfl, _, rfl, a, _, dx, _, rfl, upd_same, c_Run T, n_Run_choice T, (by show 1 < 1000; decide), ?_⟩
  refine ⟨_, rfl, _, rfl, a, _, dx, _, rfl, upd_same, c_Run T, n_Run_away T, (by show 2 < 1000; decide), ?_⟩
  refine ⟨_, rfl, _, rfl, a, _, dx, _, rfl, upd_same, c_Run T, n_Run_entered T, (by show 3 < 1000; decide), ?_⟩
  refine ⟨_, rfl, a, _, dx, _, rfl, upd_same, c_Run T, n_Run_within T, (by show 4 < 1000; decide), ?_⟩
  refine ⟨_, rfl, a, _, dx, _, rfl, upd_same, c_Run T, n_Run_done T, (by show 5 < 1000; decide), ?_⟩
  refine ⟨_, rfl, a, _, dx, _, rfl, upd_same, c_Run T, n_Run_ending T, (by show 6 < 1000; decide), ?_⟩
  refine q _ upd_same fun b hb => ?_
  rw [upd_ne hb, upd_ne hb, upd_ne hb, upd_ne hb, upd_ne hb, upd_ne hb, upd_ne hb]
abbrev N_Run_enter : List Str := ["self", "number"]
abbrev P_Run_enter : List Str := ["self", "number"]
theorem sc_Run_enter : FnScope N_Run_enter P_Run_enter (defScope s_Run_enter) := ⟨rfl, rfl, rfl, by decide +kernel, rfl, by decide +kernel, by decide +kernel⟩
def sp_enter (wi : Nat) (K : PySem.W.Frag) : Sp := fun vs H Q _ => ∃ (r : Rn) (k : Nat) (s : Big), vs = [.ref r.a, .int k] ∧ RunS K H r wi s ∧ k < r.p.parts.length ∧ wi ≤ 9 ∧
  ∀ H', Frm r H H' → RunS K H' r wi (enterW r.p r.gone r.v wi k s) → Q .non H'
def sp_call_part (wi : Nat) (K : PySem.W.Frag) : Sp := fun vs H Q _ => ∃ (r : Rn) (k : Nat) (s : Big), vs = [.ref r.a, .int k] ∧ RunS K H r wi s ∧ k < r.p.parts.length ∧ wi ≤ 9 ∧
  ∀ H', Frm r H H' → RunS K H' r wi (callW r.p r.gone r.v wi k s) → Q .non H'
def sp_do_all (d q : Nat) (K : PySem.W.Frag) : Sp := fun vs H Q _ => ∃ (r : Rn) (l : Addr) (us : List V) (st : BStmt) (s : Big), vs = [.ref r.a, .ref l] ∧ RunS K H r (d + 1) s ∧ d ≤ 8 ∧ q ≤ 3 ∧ Off r.M H l = some (.lst us) ∧ SBodyAt K r.p (Off r.M H) st us ∧ SGood r.p.sets r.p.parts.length q st ∧
  ∀ H', Frm r H H' → RunS K H' r (d + 1) (bigC r.p r.gone r.v d st s) → Q .non H'
theorem ok_Run_enter (T : Tx K mg) {k wi : Nat} (hk : 1 ≤ k) (D_Run_do_all : Df P w K mg base CX0 k (He.ma K (He.ga K "Run") "do_all") P_Run_do_all (sp_do_all wi 0 K)) : Df P w K mg base CX0 (k+1) (He.ma K (He.ga K "Run") "enter") P_Run_enter (sp_enter wi K) := by
  refine df_mk (F_Run_enter T) sc_Run_enter (fun _ _ _ _ _ _ us hl => match us, hl with | [_, _], _ => rfl) (fun vs H Q E h => by obtain ⟨_, _, _, rfl, _⟩ := h; rfl) (fun cdv A outer s H vs Q E hr h => ⟨_, (pss_cons (ps_dput (hu_of hr) (pe_fld (pv 0) rfl) (pv 1) pe_bl rfl) (pss_cons (ps_if (pt_cmpR op_eq (pe_fld (pv 0) rfl) (pg (i_MOST_WITHIN T)) (nomark _)) (pss_cons (ps_fld (pv 0) (pg (i_TOO_DEEP T)) rfl) (pss_one ps_retN)) pss_nil) (pss_cons (ps_fldaug (pv 0) pe_int in_add) (pss_cons (ps_expr (pm D_Run_do_all (c_Run T) (m_Run_do_all T)  hr (pv 0) (pa_cons (pe_fld (pe_ix ix_list (pe_fld (pe_fld (pv 0) rfl) rfl) (pv 1) (fun _ _ => rfl)) rfl) pa_nil))) (pss_one (ps_fldaug (pv 0) pe_int in_sub)))))), ?_⟩)
  obtain ⟨r, k, s, rfl, h, hk', hw, q⟩ := h
  have hl : (entKv s.ent).length < sizeLine := by
    unfold entKv
    rw [List.length_map]
    exact Nat.lt_of_le_of_lt (le_of_lt h.ok.1 h.ok.2) (Nat.lt_of_le_of_lt h.wf.p10 (by decide))
  refine ⟨_, rfl, r.a, _, r.dx, _, _, rfl, h.obj, c_Run T, n_Run_entered T, rfl, _, rfl, r.en, _, rfl, DPut.k (k := Sum.inl (k : Int)) h.ent hl, ?_⟩
  rw [put_ent]
  have h1 : RunS K (upd H r.en (.dK (entKv (mark k s.ent)))) r wi ⟨mark k s.ent, s.n, s.fin⟩ := h.of (frm_ent r H _) (by rw [upd_ne h.ne]; exact h.obj) upd_same (h.ok.mark hk') h.le
  have f1 := frm_ent r H (.dK (entKv (mark k s.ent)))
  generalize upd H r.en (.dK (entKv (mark k s.ent))) = H1 at h1 f1 ⊢
  have hE : enterW r.p r.gone r.v wi k s = if 9 ≤ wi then { ent := mark k s.ent, n := s.n, fin := 1 } else bigC r.p r.gone r.v wi (bodyOf r.p k) ⟨mark k s.ent, s.n, s.fin⟩ := rfl
  refine ⟨_, rfl, r.a, _, r.dx, _, _, rfl, h1.obj, c_Run T, n_Run_within T, rfl, rfl, _, rfl, ?_⟩
  refine iteD (fun hd => ?_) (fun hd => ?_)
  · injection hd with hd
    rw [if_pos (by omega)] at hE
    refine ⟨_, rfl, r.a, _, r.dx, _, rfl, h1.obj, c_Run T, n_Run_ending T, (by show 7 < 1000; decide), ?_⟩
    refine q _ (f1.trans (frm_obj r H1 _)) ?_
    rw [hE]
    exact h1.obj_put h1.le
  have hd' : wi < 9 := by
    rcases Nat.lt_or_ge wi 9 with z | z
    · exact z
    · exact absurd (by rw [show wi = 9 by omega] <;> rfl) hd
  rw [if_neg (by omega)] at hE
  have h2 := h1.obj_put (wi' := wi + 1) (n := s.n) (fin := s.fin) h1.le
  have f2 := f1.trans (frm_obj r H1 (.ins (He.ga K "Run") r.dx (rnF r (wi + 1) s.n s.fin)))
  refine ⟨_, rfl, r.a, _, r.dx, _, _, rfl, h1.obj, c_Run T, n_Run_within T, rfl, _, _, rfl, rfl, _, _, h1.obj, (by show 7 < 1000; decide), ?_⟩
  have h2 := h1.obj_put (wi' := wi + 1) (n := s.n) (fin := s.fin) h1.le
  have f2 := f1.trans (frm_obj r H1 (.ins (He.ga K "Run") r.dx (rnF r (wi + 1) s.n s.fin)))
  show (tSeq _ _ _ _ (upd H1 r.a (.ins (He.ga K "Run") r.dx (rnF r (wi + 1) s.n s.fin))) : Prop)
  generalize upd H1 r.a (.ins (He.ga K "Run") r.dx (rnF r (wi + 1) s.n s.fin)) = H2 at h2 f2 ⊢
  obtain ⟨dx, lS, lP, lE, dN, sa, pl, e1, e2, e3, e4, e5, e6, e7⟩ := h2.prog
  obtain ⟨x, hx, hxp⟩ : ∃ x, r.p.parts[k]? = some x ∧ bodyOf r.p k = x.body := by
    refine ⟨r.p.parts[k], List.getElem?_eq_getElem hk', ?_⟩
    unfold bodyOf
    rw [List.getElem?_eq_getElem hk'] <;> rfl
  obtain ⟨pp, hpp, dx1, l, us, g1, g2, g3⟩ := e5.at_ hx
  have hix : atI (pl.map V.ref) (k : Int) = some (.ref pp) := atI_nat (by rw [List.getElem?_map, hpp] <;> rfl)
  refine ⟨_, rfl, r.a, _, _, rfl, h2.obj, rfl, _, rfl, r.a, _, r.dx, _, _, rfl, h2.obj, c_Run T, n_Run_program T, rfl, r.pa, _, dx, _, _, rfl, off_le _ _ e1, c_Program T, n_Program_parts T, rfl, _, rfl, lP, _, _, _, rfl, rfl, SqL.of (off_le _ _ e4), hix, pp, _, dx1, _, _, rfl, off_le _ _ g1, c_Part T, n_Part_body T, rfl, ?_⟩
  refine ⟨r, l, us, x.body, ⟨mark k s.ent, s.n, s.fin⟩, rfl, h2, by omega, by decide, g2, g3, (h2.wf.pg x (List.mem_of_getElem? hx)).2.2.2.1, fun H3 f3 h3 => ?_⟩
  rw [← hxp, ← hE] at h3
  refine ⟨_, rfl, r.a, _, r.dx, _, _, rfl, h3.obj, c_Run T, n_Run_within T, rfl, _, _, rfl, rfl, _, _, h3.obj, (by show 7 < 1000; decide), ?_⟩
  refine q _ ((f2.trans f3).trans (frm_obj r H3 _)) ?_
  have := h3.obj_put (wi' := wi) (n := (enterW r.p r.gone r.v wi k s).n) (fin := (enterW r.p r.gone r.v wi k s).fin) h3.le
  rw [show (((wi + 1 : Nat) : Int) - 1) = (wi : Int) by omega]
  exact this
abbrev N_Run_call_part : List Str := ["self", "number"]
abbrev P_Run_call_part : List Str := ["self", "number"]
theorem sc_Run_call_part : FnScope N_Run_call_part P_Run_call_part (defScope s_Run_call_part) := ⟨rfl, rfl, rfl, by decide +kernel, rfl, by decide +kernel, by decide +kernel⟩
theorem ok_Run_call_part (T : Tx K mg) {k wi : Nat} (hk : 1 ≤ k) (D_Run_enter : Df P w K mg base CX0 k (He.ma K (He.ga K "Run") "enter") P_Run_enter (sp_enter wi K)) : Df P w K mg base CX0 (k+1) (He.ma K (He.ga K "Run") "call_part") P_Run_call_part (sp_call_part wi K) := by
  refine df_mk (F_Run_call_part T) sc_Run_call_part (fun _ _ _ _ _ _ us hl => match us, hl with | [_, _], _ => rfl) (fun vs H Q E h => by obtain ⟨_, _, _, rfl, _⟩ := h; rfl) (fun cdv A outer s H vs Q E hr h => ⟨_, (pss_one (ps_if (pt_cmpR op_in_seq (pv 1) (pe_fld (pv 0) rfl) (by rfl)) (pss_one (ps_fld (pv 0) (pg (i_MISSING T)) rfl)) (pss_one (ps_expr (pm D_Run_enter (c_Run T) (m_Run_enter T)  hr (pv 0) (pa_cons (pv 1) pa_nil)))))), ?_⟩)
  obtain ⟨r, k, s, rfl, h, hk', hw, q⟩ := h
  refine ⟨_, rfl, _, rfl, r.a, _, r.dx, _, _, rfl, h.obj, c_Run T, n_Run_away T, rfl, r.aw, _, rfl, (h.away.same off_le).sq, rfl, flat_ints _, _, rfl, ?_⟩
  show if inV (.int k) (iv r.gone) = true then _ else _
  rw [ints_in]
  have hC : callW r.p r.gone r.v wi k s = if r.gone.contains k = true then { s with fin := 3 } else enterW r.p r.gone r.v wi k s := rfl
  refine iteB (fun hc => ?_) (fun hc => ?_)
  · rw [if_pos hc] at hC
    refine ⟨_, rfl, r.a, _, r.dx, _, rfl, h.obj, c_Run T, n_Run_ending T, (by show 7 < 1000; decide), ?_⟩
    refine q _ (frm_obj r H _) ?_
    rw [hC]
    exact h.obj_put h.le
  · rw [if_neg (by rw [hc]; decide)] at hC
    refine ⟨_, rfl, r.a, _, _, rfl, h.obj, rfl, _, rfl, r, k, s, rfl, h, hk', hw, fun H' f' h' => q H' f' ?_⟩
    rw [hC]
    exact h'
end
end Vf

set_option Elab.async false
set_option linter.all false
set_option maxRecDepth 100000
set_option maxHeartbeats 4000000
/-! Runs: makes, one statement, all of a body. -/
namespace Vf
open PySem PySem.Spec PyProof.Rows L2
open VakepBase (Bytes)
open Vakepa (Piece Prog showPiece valuesBy valuesOf counts total pieceText madeName partNamed bodyOf mark nameOf)
section
variable {P : Program} {w : World} {K : PySem.W.Frag} {mg : Str → Option Value} {base : Heap}
/-- what the dict of numbers says of a name -/
theorem numbers_of (p : Prog) (b : Bytes) : valV (nkv (p.parts.map fun x => x.name) 0) (Sum.inr (tx b) : Key) = (partNamed p b).map fun (j : Nat) => V.int (j : Int) := by
  rw [valV_nkv, find_map]
  unfold partNamed
  congr 1
  funext j
  rw [Nat.zero_add]
theorem named_lt {p : Prog} {b : Bytes} {k : Nat} (h : partNamed p b = some k) : k < p.parts.length := (List.findIdx?_eq_some_iff_getElem.mp h).1
abbrev N_Run_make_part : List Str := ["self", "make", "number"]
abbrev P_Run_make_part : List Str := ["self", "make"]
theorem sc_Run_make_part : FnScope N_Run_make_part P_Run_make_part (defScope s_Run_make_part) := ⟨rfl, rfl, rfl, by decide +kernel, rfl, by decide +kernel, by decide +kernel⟩
def sp_make_part (wi : Nat) (K : PySem.W.Frag) : Sp := fun vs H Q _ => ∃ (r : Rn) (x dx l : Addr) (ps : List Piece) (s : Big), vs = [.ref r.a, .ref x] ∧ RunS K H r wi s ∧ wi ≤ 9 ∧ H x = some (.ins (He.ga K "Make") dx [("pieces", .ref l)]) ∧ H l = some (.lst (ps.map fun q => sv (showPiece r.p q))) ∧ ps.length ≤ 3 ∧ (∀ q ∈ ps, PieceOk r.p.sets q) ∧
  ∀ H', Frm r H H' → RunS K H' r wi (makeW r.p r.gone r.v wi (partNamed r.p (madeName r.p r.v ps)) s) → Q .non H'
theorem ok_Run_make_part (T : Tx K mg) (D_made_name : Df P w K mg base CX0 (1) (He.ga K "made_name") P_made_name (sp_made_name K)) {k wi : Nat} (hk : 1 ≤ k) (D_Run_enter : Df P w K mg base CX0 k (He.ma K (He.ga K "Run") "enter") P_Run_enter (sp_enter wi K)) : Df P w K mg base CX0 (k+1) (He.ma K (He.ga K "Run") "make_part") P_Run_make_part (sp_make_part wi K) := by
  refine df_mk (F_Run_make_part T) sc_Run_make_part (fun _ _ _ _ _ _ us hl => match us, hl with | [_, _], _ => rfl) (fun vs H Q E h => by obtain ⟨_, _, _, _, _, _, rfl, _⟩ := h; rfl) (fun cdv A outer s H vs Q E hr h => ⟨_, (pss_cons (ps_set (i := 2) sc_Run_make_part.nd rfl (Or.inl rfl) (pe_dget1 (hu_of hr) (pe_fld (pe_fld (pv 0) rfl) rfl) (pf D_made_name (g_made_name T) hr (pa_cons (pv 1) (pa_cons (pe_fld (pv 0) rfl) pa_nil))) ⟨rfl, rfl, rfl, rfl⟩)) (pss_one (ps_if (PW.pt (pw_and (pt_cmpR op_notN (pv 2) pe_non (nomark _)) (pw_and1 (pt_cmpR op_notIn_seq (pv 2) (pe_fld (pv 0) rfl) (by rfl))))) (pss_one (ps_expr (pm D_Run_enter (c_Run T) (m_Run_enter T)  hr (pv 0) (pa_cons (pv 2) pa_nil)))) pss_nil))), ?_⟩)
  obtain ⟨r, x, dx, l, ps, s, rfl, h, hw, hx, hl, h3, hp, q⟩ := h
  obtain ⟨dxP, lS, lP, lE, dN, sa, pl, e1, e2, e3, e4, e5, e6, e7⟩ := id h.prog
  refine ⟨_, rfl, r.a, _, r.dx, _, _, rfl, h.obj, c_Run T, n_Run_program T, rfl, r.pa, _, dxP, _, _, rfl, off_le _ _ e1, c_Program T, n_Program_numbers T, rfl, dN, rfl, .inl ⟨_, .inl (off_le _ _ e7)⟩, ?_⟩
  refine ⟨_, rfl, _, rfl, r.a, _, r.dx, _, _, rfl, h.obj, c_Run T, n_Run_choice T, rfl, x, dx, l, r.ch, r.p, r.asg, ps, rfl, h.wf, hx, hl, off_le _ _ h.cho, h3, hp, fun H1 s1 => ?_⟩
  have h1 := h.same s1
  have f1 : Frm r H H1 := off_same s1
  refine ⟨_, DGet.k (k := Sum.inr (tx (madeName r.p r.v ps))) (off_le _ _ (f1 _ _ e7)), ?_⟩
  rw [numbers_of]
  cases hn : partNamed r.p (madeName r.p r.v ps) with
  | none =>
    refine ⟨_, rfl, rfl, _, rfl, iteNS rfl ?_⟩
    refine iteF ?_
    rw [hn] at q
    exact q _ f1 h1
  | some k =>
    rw [hn] at q
    refine ⟨_, rfl, rfl, _, rfl, iteN (fun _ => ?_) (fun z => nomatch z)⟩
    refine ⟨_, rfl, _, rfl, r.a, _, r.dx, _, _, rfl, h1.obj, c_Run T, n_Run_away T, rfl, r.aw, _, rfl, (h1.away.same off_le).sq, rfl, flat_ints _, _, rfl, ?_⟩
    show if (!inV (.int k) (iv r.gone)) = true then _ else _
    rw [ints_in]
    have hM : makeW r.p r.gone r.v wi (some k) s = if r.gone.contains k = true then s else enterW r.p r.gone r.v wi k s := rfl
    refine iteNB (fun hc => ?_) (fun hc => ?_)
    · rw [if_neg (by rw [hc]; decide)] at hM
      rw [hM] at q
      exact ⟨_, rfl, r.a, _, _, rfl, h1.obj, rfl, _, rfl, r, k, s, rfl, h1, named_lt hn, hw, fun H' f' h' => q H' (f1.trans f') h'⟩
    · rw [if_pos hc] at hM
      rw [hM] at q
      exact q _ f1 h1
/-- the first of the statements -/
def HeadAt (K : PySem.W.Frag) (p : Prog) (H : Hp) : BStmt → Addr → Prop
  | .done, _ => False
  | .say k _, a => ∃ dx, H a = some (.ins (He.ga K "Say") dx [("amount", .int k)])
  | .call k _, a => ∃ dx, H a = some (.ins (He.ga K "Call") dx [("name", sv (nameOf p k))])
  | .make ps _, a => ∃ dx l, H a = some (.ins (He.ga K "Make") dx [("pieces", .ref l)]) ∧ H l = some (.lst (ps.map fun q => sv (showPiece p q)))
  | .when_ x v b _, a => ∃ dx l us, H a = some (.ins (He.ga K "When") dx [("setting", sv (showPiece p (.set x))), ("word", sv (valueT p.sets x v)), ("body", .ref l)]) ∧ H l = some (.lst us) ∧ SBodyAt K p H b us
theorem body_head {p : Prog} {H : Hp} : ∀ {st : BStmt} {us : List V}, SBodyAt K p H st us → (st = .done ∧ us = []) ∨ (st ≠ .done ∧ ∃ a ws, us = .ref a :: ws ∧ HeadAt K p H st a ∧ SBodyAt K p H (restS st) ws)
  | .done, _, h => .inl ⟨rfl, h⟩
  | .say _ _, _, ⟨a, dx, ws, e, h, t⟩ => .inr ⟨(fun z => nomatch z), a, ws, e, ⟨dx, h⟩, t⟩
  | .call _ _, _, ⟨a, dx, ws, e, h, t⟩ => .inr ⟨(fun z => nomatch z), a, ws, e, ⟨dx, h⟩, t⟩
  | .make _ _, _, ⟨a, dx, l, ws, e, h, h2, t⟩ => .inr ⟨(fun z => nomatch z), a, ws, e, ⟨dx, l, h, h2⟩, t⟩
  | .when_ _ _ _ _, _, ⟨a, dx, l, us, ws, e, h, h2, t1, t⟩ => .inr ⟨(fun z => nomatch z), a, ws, e, ⟨dx, l, us, h, h2, t1⟩, t⟩
theorem HeadAt.same {p : Prog} {H H' : Hp} (f : Same H H') : ∀ {st : BStmt} {a : Addr}, HeadAt K p H st a → HeadAt K p H' st a
  | .done, _, h => h
  | .say _ _, _, ⟨dx, h⟩ => ⟨dx, f _ _ h⟩
  | .call _ _, _, ⟨dx, h⟩ => ⟨dx, f _ _ h⟩
  | .make _ _, _, ⟨dx, l, h, h2⟩ => ⟨dx, l, f _ _ h, f _ _ h2⟩
  | .when_ _ _ _ _, _, ⟨dx, l, us, h, h2, t⟩ => ⟨dx, l, us, f _ _ h, f _ _ h2, t.same f⟩
theorem good_rest {ss : Sets} {n q : Nat} : ∀ {st : BStmt}, SGood ss n q st → SGood ss n q (restS st)
  | .done, h => h
  | .say _ _, h => h.2
  | .call _ _, h => h.2
  | .make _ _, h => h.2.2
  | .when_ _ _ _ _, h => h.2.2.2
theorem body_len {p : Prog} {H : Hp} : ∀ {st : BStmt} {us : List V}, SBodyAt K p H st us → us.length ≤ scost st
  | .done, us, h => by
    have h : us = [] := h
    rw [h]
    exact Nat.zero_le _
  | .say _ r, _, ⟨a, dx, ws, e, h, t⟩ => by
    have := body_len t
    rw [e, List.length_cons]
    show _ ≤ 3 + scost r
    omega
  | .call _ r, _, ⟨a, dx, ws, e, h, t⟩ => by
    have := body_len t
    rw [e, List.length_cons]
    show _ ≤ 3 + scost r
    omega
  | .make ps r, _, ⟨a, dx, l, ws, e, h, h2, t⟩ => by
    have := body_len t
    rw [e, List.length_cons]
    show _ ≤ 1 + 2 * ps.length + scost r
    omega
  | .when_ _ _ b r, _, ⟨a, dx, l, us, ws, e, h, h2, t1, t⟩ => by
    have := body_len t
    rw [e, List.length_cons]
    show _ ≤ 5 + scost b + scost r
    omega
abbrev KINDS : List Str := ["Say", "Call", "Make", "When"]
/-- isinstance of a statement -/
theorem is_stmt (T : Tx K mg) {H : Hp} {a dx : Addr} {fs : List (Str × V)} {x : Str} (y : Str) (hx : x ∈ KINDS) (hy : y ∈ KINDS) (e : H a = some (.ins (He.ga K x) dx fs)) (cl : Cls K (He.ga K x)) : TyX K H (.ref a) (.ref (He.ga K x)) ∧ PySem.W.kitOne K (.ref (He.ga K x)) (.ref (He.ga K y)) = some (decide (x = y)) := by
  obtain ⟨h1, h2⟩ := isi_of (e_9 T) hx hy e cl
  exact ⟨.base h1, h2⟩
abbrev N_Run_do_one : List Str := ["self", "statement"]
abbrev P_Run_do_one : List Str := ["self", "statement"]
theorem sc_Run_do_one : FnScope N_Run_do_one P_Run_do_one (defScope s_Run_do_one) := ⟨rfl, rfl, rfl, by decide +kernel, rfl, by decide +kernel, by decide +kernel⟩
def sp_do_one (d q : Nat) (K : PySem.W.Frag) : Sp := fun vs H Q _ => ∃ (r : Rn) (x : Addr) (st : BStmt) (s : Big), vs = [.ref r.a, .ref x] ∧ RunS K H r (d + 1) s ∧ d ≤ 8 ∧ q ≤ 3 ∧ HeadAt K r.p (Off r.M H) st x ∧ SGood r.p.sets r.p.parts.length q st ∧
  ∀ H', Frm r H H' → RunS K H' r (d + 1) (oneS r.p r.gone r.v d st s) → Q .non H'
theorem ok_Run_do_one (T : Tx K mg) (D_holds : Df P w K mg base CX0 (1) (He.ga K "holds") P_holds (sp_holds K)) {k d q : Nat} (hk : 2 ≤ k) (D_Run_call_part : Df P w K mg base CX0 k (He.ma K (He.ga K "Run") "call_part") P_Run_call_part (sp_call_part (d + 1) K)) (D_Run_make_part : Df P w K mg base CX0 k (He.ma K (He.ga K "Run") "make_part") P_Run_make_part (sp_make_part (d + 1) K)) (D_Run_do_all : Df P w K mg base CX0 k (He.ma K (He.ga K "Run") "do_all") P_Run_do_all (sp_do_all d (q + 1) K)) : Df P w K mg base CX0 (k+1) (He.ma K (He.ga K "Run") "do_one") P_Run_do_one (sp_do_one d q K) := by
  refine df_mk (F_Run_do_one T) sc_Run_do_one (fun _ _ _ _ _ _ us hl => match us, hl with | [_, _], _ => rfl) (fun vs H Q E h => by obtain ⟨_, _, _, _, rfl, _⟩ := h; rfl) (fun cdv A outer s H vs Q E hr h => ⟨_, (pss_one (ps_if (pt_val (pe_callB call_isi (by rfl) (b_isinstance T) (by decide +kernel) (pa_cons (pv 1) (pa_cons (pgo (g_Call T)) pa_nil)))) (pss_one (ps_expr (pm D_Run_call_part (c_Run T) (m_Run_call_part T)  hr (pv 0) (pa_cons (pe_dget (hu_of hr) (pe_fld (pe_fld (pv 0) rfl) rfl) (pe_fld (pv 1) rfl) (fun _ _ => rfl)) pa_nil)))) (pss_one (ps_if (pt_val (pe_callB call_isi (by rfl) (b_isinstance T) (by decide +kernel) (pa_cons (pv 1) (pa_cons (pgo (g_Make T)) pa_nil)))) (pss_one (ps_expr (pm D_Run_make_part (c_Run T) (m_Run_make_part T)  hr (pv 0) (pa_cons (pv 1) pa_nil)))) (pss_one (ps_if (PW.pt (pw_and (pt_val (pe_callB call_isi (by rfl) (b_isinstance T) (by decide +kernel) (pa_cons (pv 1) (pa_cons (pgo (g_When T)) pa_nil)))) (pw_and1 (pt_val (pf D_holds (g_holds T) hr (pa_cons (pv 1) (pa_cons (pe_fld (pv 0) rfl) pa_nil))))))) (pss_one (ps_expr (pm D_Run_do_all (c_Run T) (m_Run_do_all T)  hr (pv 0) (pa_cons (pe_fld (pv 1) rfl) pa_nil)))) pss_nil)))))), ?_⟩)
  obtain ⟨r, x, st, s, rfl, h, hd, hq, hh, hg, q'⟩ := h
  cases st with
  | done => exact hh.elim
  | say k b =>
    obtain ⟨dx, hx⟩ := hh
    have hx' := off_le _ _ hx
    have hiCall := is_stmt T "Call" (by decide +kernel) (by decide +kernel) hx' (c_Say T)
    refine ⟨_, rfl, _, _, _, _, _, rfl, .own _, hiCall.1, hiCall.2, _, rfl, iteD (fun z => absurd z (by decide +kernel)) (fun _ => ?_)⟩
    have hiMake := is_stmt T "Make" (by decide +kernel) (by decide +kernel) hx' (c_Say T)
    refine ⟨_, rfl, _, _, _, _, _, rfl, .own _, hiMake.1, hiMake.2, _, rfl, iteD (fun z => absurd z (by decide +kernel)) (fun _ => ?_)⟩
    have hiWhen := is_stmt T "When" (by decide +kernel) (by decide +kernel) hx' (c_Say T)
    refine ⟨_, rfl, _, _, _, _, _, rfl, .own _, hiWhen.1, hiWhen.2, _, rfl, iteD (fun z => absurd z (by decide +kernel)) (fun _ => ?_)⟩
    refine iteF ?_
    exact q' H (Same.refl _) h
  | call k b =>
    obtain ⟨dx, hx⟩ := hh
    have hx' := off_le _ _ hx
    have hkl : k < r.p.parts.length := hg.1
    have hiCall := is_stmt T "Call" (by decide +kernel) (by decide +kernel) hx' (c_Call T)
    refine ⟨_, rfl, _, _, _, _, _, rfl, .own _, hiCall.1, hiCall.2, _, rfl, iteD (fun _ => ?_) (fun z => absurd rfl z)⟩
    obtain ⟨dxP, lS, lP, lE, dN, sa, pl, e1, e2, e3, e4, e5, e6, e7⟩ := id h.prog
    have hget : valV (nkv (r.p.parts.map fun x => x.name) 0) (Sum.inr (tx (nameOf r.p k)) : Key) = some (.int k) := by
      have : partNamed r.p (nameOf r.p k) = some k := by
        have hb : (r.p.parts.map fun x => x.name)[k]? = some (nameOf r.p k) := by
          unfold nameOf
          rw [List.getElem?_map, List.getElem?_eq_getElem hkl] <;> rfl
        have := find_nodup h.wf.pn hb
        rw [find_map] at this
        exact this
      rw [numbers_of, this] <;> rfl
    have hDG : DGet H dN (sv (nameOf r.p k)) (some (.int k)) := by
      rw [← hget]
      exact DGet.k (k := Sum.inr (tx (nameOf r.p k))) (off_le _ _ e7)
    exact ⟨_, rfl, r.a, _, _, rfl, h.obj, rfl, _, rfl, r.a, _, r.dx, _, _, rfl, h.obj, c_Run T, n_Run_program T, rfl, r.pa, _, dxP, _, _, rfl, off_le _ _ e1, c_Program T, n_Program_numbers T, rfl, _, rfl, x, _, dx, _, _, rfl, hx', c_Call T, n_Call_name T, rfl, dN, _, rfl, hDG, r, k, s, rfl, h, hkl, by omega, q'⟩
  | make ps b =>
    obtain ⟨dx, l, hx, hl⟩ := hh
    have hx' := off_le _ _ hx
    have hiCall := is_stmt T "Call" (by decide +kernel) (by decide +kernel) hx' (c_Make T)
    refine ⟨_, rfl, _, _, _, _, _, rfl, .own _, hiCall.1, hiCall.2, _, rfl, iteD (fun z => absurd z (by decide +kernel)) (fun _ => ?_)⟩
    have hiMake := is_stmt T "Make" (by decide +kernel) (by decide +kernel) hx' (c_Make T)
    refine ⟨_, rfl, _, _, _, _, _, rfl, .own _, hiMake.1, hiMake.2, _, rfl, iteD (fun _ => ?_) (fun z => absurd rfl z)⟩
    exact ⟨_, rfl, r.a, _, _, rfl, h.obj, rfl, _, rfl, r, x, dx, l, ps, s, rfl, h, by omega, hx', off_le _ _ hl, hg.1, hg.2.1, q'⟩
  | when_ y v c b =>
    obtain ⟨dx, l, us, hx, hl, hb⟩ := hh
    have hx' := off_le _ _ hx
    obtain ⟨⟨S, hS, hv⟩, hq3, hgc, hgb⟩ := hg
    have hiCall := is_stmt T "Call" (by decide +kernel) (by decide +kernel) hx' (c_When T)
    refine ⟨_, rfl, _, _, _, _, _, rfl, .own _, hiCall.1, hiCall.2, _, rfl, iteD (fun z => absurd z (by decide +kernel)) (fun _ => ?_)⟩
    have hiMake := is_stmt T "Make" (by decide +kernel) (by decide +kernel) hx' (c_When T)
    refine ⟨_, rfl, _, _, _, _, _, rfl, .own _, hiMake.1, hiMake.2, _, rfl, iteD (fun z => absurd z (by decide +kernel)) (fun _ => ?_)⟩
    have hiWhen := is_stmt T "When" (by decide +kernel) (by decide +kernel) hx' (c_When T)
    refine ⟨_, rfl, _, _, _, _, _, rfl, .own _, hiWhen.1, hiWhen.2, _, rfl, iteD (fun _ => ?_) (fun z => absurd rfl z)⟩
    refine ⟨_, rfl, _, rfl, r.a, _, r.dx, _, _, rfl, h.obj, c_Run T, n_Run_choice T, rfl, x, dx, r.ch, _, r.p, r.asg, y, v, S, rfl, h.wf, hx', off_le _ _ h.cho, hS, hv, _, rfl, ?_⟩
    have hO : oneS r.p r.gone r.v d (.when_ y v c b) s = if r.v.getD y 0 = v then bigC r.p r.gone r.v d c s else s := rfl
    refine iteD (fun hc => ?_) (fun hc => ?_)
    · rw [if_pos hc] at hO
      rw [hO] at q'
      exact ⟨_, rfl, r.a, _, _, rfl, h.obj, rfl, _, rfl, x, _, dx, _, _, rfl, hx', c_When T, n_When_body T, rfl, r, l, us, c, s, rfl, h, hd, by omega, hl, hb, hgc, q'⟩
    · rw [if_neg hc] at hO
      rw [hO] at q'
      exact q' H (Same.refl _) h
abbrev N_Run_do_all : List Str := ["self", "body", "statement"]
abbrev P_Run_do_all : List Str := ["self", "body"]
theorem sc_Run_do_all : FnScope N_Run_do_all P_Run_do_all (defScope s_Run_do_all) := ⟨rfl, rfl, rfl, by decide +kernel, rfl, by decide +kernel, by decide +kernel⟩
theorem ok_Run_do_all (T : Tx K mg) {k d q : Nat} (hk : 2 ≤ k) (D_Run_do_one : Df P w K mg base CX0 k (He.ma K (He.ga K "Run") "do_one") P_Run_do_one (sp_do_one d q K)) : Df P w K mg base CX0 (k+1) (He.ma K (He.ga K "Run") "do_all") P_Run_do_all (sp_do_all d q K) := by
  refine df_mk (F_Run_do_all T) sc_Run_do_all (fun _ _ _ _ _ _ us hl => match us, hl with | [_, _], _ => rfl) (fun vs H Q E h => by obtain ⟨_, _, _, _, _, rfl, _⟩ := h; rfl) (fun cdv A outer s H vs Q E hr h => ⟨_, (pss_one (ps_for PassesOwn.never rfl (pi_list (pv 1)) (pg_name (i := 2) sc_Run_do_all.nd rfl (Or.inl rfl)) (pss_cons (ps_if (PW.pt (pw_and (pt_cmpR op_eq (pe_fld (pv 0) rfl) (pg (i_WELL T)) (nomark _)) (pw_and1 (pt_cmpR op_eq (pe_fld (pv 0) rfl) (pg (i_MOST_DONE T)) (nomark _))))) (pss_one (ps_fld (pv 0) (pg (i_TOO_LONG_runs T)) rfl)) pss_nil) (pss_cons (ps_if (pt_cmpR op_ne (pe_fld (pv 0) rfl) (pg (i_WELL T)) (nomark _)) (pss_one ps_retN) pss_nil) (pss_cons (ps_fldaug (pv 0) pe_int in_add) (pss_one (ps_expr (pm D_Run_do_one (c_Run T) (m_Run_do_one T)  hr (pv 0) (pa_cons (pv 2) pa_nil))))))))), ?_⟩)
  obtain ⟨r, l, us, st, s, rfl, h, hd, hq, hl, hb, hg, q'⟩ := h
  refine ⟨_, rfl, l, rfl, ⟨_, SqL.of (off_le _ _ hl)⟩, ?_⟩
  refine for_it walk_list (fun i σ H' => ∃ (x : Option V) (st' : BStmt) (s' : Big), σ = [some (.ref r.a), some (.ref l), x] ∧ Frm r H H' ∧ RunS K H' r (d + 1) s' ∧ SBodyAt K r.p (Off r.M H) st' (us.drop i) ∧ SGood r.p.sets r.p.parts.length q st' ∧ bigC r.p r.gone r.v d st s = bigC r.p r.gone r.v d st' s')
    ⟨none, st, s, rfl, Same.refl _, h, hb, hg, rfl⟩ (fun i σ H' _ ⟨_, _, _, _, f, _⟩ => SqL.of (off_le _ _ (f _ _ hl))) ?_ ?_
  · rintro i x σ H1 H2 hi ⟨y, st', s', rfl, f1, h1, hb1, hg1, e1⟩ ⟨rfl, hx⟩
    rw [drop_get hx] at hb1
    rcases body_head hb1 with ⟨_, z⟩ | ⟨hne, a, ws, hus, hh, hr1⟩
    · exact nomatch z
    obtain ⟨rfl, rfl⟩ := List.cons.inj hus
    have hB := bigC_one (p := r.p) (out := r.gone) (v := r.v) (d := d) hne h1.le
    refine ⟨_, rfl, r.a, _, r.dx, _, _, rfl, h1.obj, c_Run T, n_Run_ending T, rfl, rfl, _, rfl, ?_⟩
    refine iteD (fun hz => ?_) (fun hz => ?_)
    · have hz' : s'.fin = 0 := by
        injection hz with hz
        omega
      refine ⟨_, rfl, r.a, _, r.dx, _, _, rfl, h1.obj, c_Run T, n_Run_done T, rfl, rfl, _, rfl, ?_⟩
      refine iteD (fun hn => ?_) (fun hn => ?_)
      · have hn' : 100 ≤ s'.n := by
          injection hn with hn
          omega
        rw [gate_long hz' hn'] at hB
        have h2 := h1.obj_put (wi' := d + 1) (n := s'.n) (fin := 2) h1.le
        have f2 := f1.trans (frm_obj r H2 (.ins (He.ga K "Run") r.dx (rnF r (d + 1) s'.n 2)))
        refine ⟨_, rfl, r.a, _, r.dx, _, rfl, h1.obj, c_Run T, n_Run_ending T, (by show 7 < 1000; decide), ?_⟩
        refine ⟨_, rfl, r.a, _, r.dx, _, _, rfl, h2.obj, c_Run T, n_Run_ending T, rfl, rfl, _, rfl, ?_⟩
        refine iteN (fun _ => ?_) (fun z => absurd z (by show ¬ V.int 2 = V.int 0; intro z; injection z with z; exact absurd z (by decide)))
        refine q' _ f2 ?_
        rw [e1, hB]
        exact h2
      · have hn' : s'.n < 100 := by
          rcases Nat.lt_or_ge s'.n 100 with z | z
          · exact z
          · exact absurd (by have := h1.le; rw [show s'.n = 100 by omega] <;> rfl) hn
        rw [gate_on hz' hn'] at hB
        refine ⟨_, rfl, r.a, _, r.dx, _, _, rfl, h1.obj, c_Run T, n_Run_ending T, rfl, rfl, _, rfl, ?_⟩
        refine iteNS hz ?_
        have h2 := h1.obj_put (wi' := d + 1) (n := s'.n + 1) (fin := s'.fin) hn'
        have f2 := f1.trans (frm_obj r H2 (.ins (He.ga K "Run") r.dx (rnF r (d + 1) (s'.n + 1) s'.fin)))
        refine ⟨_, rfl, r.a, _, r.dx, _, _, rfl, h1.obj, c_Run T, n_Run_done T, rfl, _, _, rfl, rfl, _, _, h1.obj, (by show 7 < 1000; decide), ?_⟩
        refine ⟨_, rfl, r.a, _, _, rfl, h2.obj, rfl, _, rfl, r, a, st', _, rfl, h2, hd, hq, ?_, hg1, fun H4 f4 h4 => ?_⟩
        · exact hh.same f2
        · exact ⟨_, restS st', _, rfl, f2.trans f4, h4, hr1, good_rest hg1, by rw [e1, hB]⟩
    · have hz' : s'.fin ≠ 0 := fun z => hz (by rw [z] <;> rfl)
      refine iteF ?_
      refine ⟨_, rfl, r.a, _, r.dx, _, _, rfl, h1.obj, c_Run T, n_Run_ending T, rfl, rfl, _, rfl, ?_⟩
      refine iteN (fun _ => ?_) (fun z => absurd z hz)
      refine q' _ f1 ?_
      rw [e1, bigC_fin hz']
      exact h1
  · rintro σ H1 ⟨y, st', s', rfl, f1, h1, hb1, hg1, e1⟩
    rw [List.drop_length] at hb1
    rcases body_head hb1 with ⟨z, _⟩ | ⟨_, a, ws, z, _⟩
    · subst z
      refine q' H1 f1 ?_
      rw [e1]
      exact h1
    · exact nomatch z
end
end Vf

set_option Elab.async false
set_option linter.all false
set_option maxRecDepth 100000
set_option maxHeartbeats 4000000
/-! Runs: the recursion closed; what all runs enter. -/
namespace Vf
open PySem PySem.Spec PyProof.Rows L2
open VakepBase (Bytes)
open Vakepa (Piece Prog showPiece valuesBy valuesOf counts total pieceText madeName partNamed bodyOf mark nameOf)
section
variable {P : Program} {w : World} {K : PySem.W.Frag} {mg : Str → Option Value} {base : Heap}
/-- a body within nine others is never begun; whens don't nest so deep -/
theorem no_do_all (T : Tx K mg) (d q : Nat) (hn : ¬ (d ≤ 8 ∧ q ≤ 3)) : Df P w K mg base CX0 1 (He.ma K (He.ga K "Run") "do_all") P_Run_do_all (sp_do_all d q K) :=
  df_mk (k := 0) (F_Run_do_all T) sc_Run_do_all (fun _ _ _ _ _ _ us hl => match us, hl with | [_, _], _ => rfl) (fun vs H Q E h => by obtain ⟨_, _, _, _, _, rfl, _⟩ := h; rfl)
    fun cdv A outer s H vs Q E hr h => by
      obtain ⟨_, _, _, _, _, _, _, h1, h2, _⟩ := h
      exact absurd ⟨h1, h2⟩ hn
theorem all_depths (T : Tx K mg) (D_made_name : Df P w K mg base CX0 1 (He.ga K "made_name") P_made_name (sp_made_name K)) (D_holds : Df P w K mg base CX0 1 (He.ga K "holds") P_holds (sp_holds K)) :
    ∀ j : Nat, j ≤ 9 → Df P w K mg base CX0 (1 + 10 * j) (He.ma K (He.ga K "Run") "do_all") P_Run_do_all (sp_do_all (9 - j) 0 K)
  | 0, _ => no_do_all T 9 0 (by decide)
  | j + 1, hj => by
    have D := all_depths T D_made_name D_holds j (by omega)
    obtain ⟨d, hd⟩ : ∃ d, d = 9 - (j + 1) := ⟨_, rfl⟩
    rw [show 9 - j = d + 1 by omega] at D
    rw [← hd]
    obtain ⟨k, hk⟩ : ∃ k, k = 1 + 10 * j := ⟨_, rfl⟩
    rw [← hk] at D
    rw [show 1 + 10 * (j + 1) = k + 10 by omega]
    have E := ok_Run_enter T (by omega) D
    have C := ok_Run_call_part T (by omega) E
    have M := ok_Run_make_part T D_made_name (by omega) E
    have N4 := (no_do_all (P := P) (w := w) (base := base) T d 4 (by omega)).mono (show 1 ≤ k + 1 + 1 by omega)
    have O3 := ok_Run_do_one T D_holds (by omega) C M N4
    have A3 := ok_Run_do_all T (by omega) O3
    have O2 := ok_Run_do_one T D_holds (by omega) (C.mono (show k + 1 + 1 ≤ k + 1 + 1 + 1 + 1 by omega)) (M.mono (by omega)) A3
    have A2 := ok_Run_do_all T (by omega) O2
    have O1 := ok_Run_do_one T D_holds (by omega) (C.mono (show k + 1 + 1 ≤ k + 1 + 1 + 1 + 1 + 1 + 1 by omega)) (M.mono (by omega)) A2
    have A1 := ok_Run_do_all T (by omega) O1
    have O0 := ok_Run_do_one T D_holds (by omega) (C.mono (show k + 1 + 1 ≤ k + 1 + 1 + 1 + 1 + 1 + 1 + 1 + 1 by omega)) (M.mono (by omega)) A1
    have A0 := ok_Run_do_all T (by omega) O0
    exact A0
theorem ok_call_entry (T : Tx K mg) (D_made_name : Df P w K mg base CX0 1 (He.ga K "made_name") P_made_name (sp_made_name K)) (D_holds : Df P w K mg base CX0 1 (He.ga K "holds") P_holds (sp_holds K)) :
    Df P w K mg base CX0 93 (He.ma K (He.ga K "Run") "call_part") P_Run_call_part (sp_call_part 0 K) := by
  have D := all_depths (P := P) (w := w) (base := base) T D_made_name D_holds 9 (Nat.le_refl _)
  exact ok_Run_call_part T (by decide) (ok_Run_enter T (by decide) D)
abbrev N_entered_by_runs : List Str := ["program", "away", "entered", "choice", "entry"]
abbrev P_entered_by_runs : List Str := ["program", "away"]
theorem sc_entered_by_runs : FnScope N_entered_by_runs P_entered_by_runs (defScope s_entered_by_runs) := ⟨rfl, rfl, rfl, by decide +kernel, rfl, by decide +kernel, by decide +kernel⟩
def sp_entered (K : PySem.W.Frag) : Sp := fun vs H Q _ => ∃ (pa aw : Addr) (p : Prog) (gone : List Nat), vs = [.ref pa, .ref aw] ∧ ProgAt K H pa p ∧ Wfp p ∧ AwayAt H aw gone ∧
  ∀ d l H', Same H H' → H d = none → H' d = some (.dK (entKv l)) → EntOk p l → (∀ k, k ∈ l ↔ k ∈ Vakepb.enters p gone) → Q (.ref d) H'
theorem ok_entered_by_runs (T : Tx K mg) (D_choices_of : Df P w K mg base CX0 (2) (He.ga K "choices_of") P_choices_of (sp_choices_of K)) (D_Run_init : Df P w K mg base CX0 (1) (He.ma K (He.ga K "Run") "__init__") P_Run_init (sp_Run_init K)) (D_Run_call_part : Df P w K mg base CX0 93 (He.ma K (He.ga K "Run") "call_part") P_Run_call_part (sp_call_part 0 K)) : Df P w K mg base CX0 (95) (He.ga K "entered_by_runs") P_entered_by_runs (sp_entered K) := by
  refine df_mk (F_entered_by_runs T) sc_entered_by_runs (fun _ _ _ _ _ _ us hl => match us, hl with | [_, _], _ => rfl) (fun vs H Q E h => by obtain ⟨_, _, _, _, rfl, _⟩ := h; rfl) (fun cdv A outer s H vs Q E hr h => ⟨_, (pss_cons (ps_set (i := 2) sc_entered_by_runs.nd rfl (Or.inl rfl) pe_dnewK) (pss_cons (ps_for PassesOwn.never rfl (pi_list (pf D_choices_of (g_choices_of T) hr (pa_cons (pv 0) pa_nil))) (pg_name (i := 3) sc_entered_by_runs.nd rfl (Or.inl rfl)) (pss_one (ps_for PassesOwn.never rfl (pi_list (pe_fld (pv 0) rfl)) (pg_name (i := 4) sc_entered_by_runs.nd rfl (Or.inl rfl)) (pss_one (ps_expr (pm D_Run_call_part (c_Run T) (m_Run_call_part T)  hr (pk D_Run_init (k_Run T) (g_Run T) hr (pa_cons (pv 0) (pa_cons (pv 3) (pa_cons (pv 1) (pa_cons (pv 2) pa_nil))))) (pa_cons (pv 4) pa_nil))))))) (pss_one (ps_ret (pv 2))))), ?_⟩)
  obtain ⟨pa, aw, p, gone, rfl, hP, hw, haw, q⟩ := h
  refine fun D hD => ?_
  have s0 := same_new (o := .dK []) hD
  have e0 : upd H D (.dK []) D = some (.dK []) := upd_same
  generalize upd H D (.dK []) = H0 at s0 e0 ⊢
  refine ⟨_, rfl, pa, p, rfl, hP.same s0, hw, fun lc ds H1 s1 hlc e1 e2 e3 => ?_⟩
  have hlD : lc ≠ D := fun z => by rw [z, e0] at hlc; cases hlc
  have hdD : ∀ d ∈ ds, d ≠ D := fun d hd z => by rw [z] at hd; rw [e3 D hd] at e0; cases e0
  have eD1 := s1 _ _ e0
  have sH : Same H H1 := s0.trans s1
  have nD : ∀ b o, H b = some o → b ≠ D := fun b o e => ne_of_none e hD
  have hdl : ds.length = total p := by rw [e2.len, List.length_range]
  obtain ⟨dxP, lS, lP, lE, dN, sa, pl, p1, p2, p3, p4, p5, p6, p7⟩ := id hP
  refine ⟨lc, rfl, ⟨_, SqL.of e1⟩, ?_⟩
  refine for_it walk_list (fun i σ H' => ∃ (x3 x4 : Option V) (l : List Nat), σ = [some (.ref pa), some (.ref aw), some (.ref D), x3, x4] ∧ (∀ b o, b ≠ D → H1 b = some o → H' b = some o) ∧ H' D = some (.dK (entKv l)) ∧ EntOk p l ∧
      ∀ k, k ∈ l ↔ ∃ a, a < i ∧ ∃ e ∈ p.starts, k ∈ (Vakepa.run p gone e (valuesOf p a)).entered)
    ⟨none, none, [], rfl, fun b o _ e => e, eD1, ⟨List.nodup_nil, (fun k hk => nomatch hk)⟩, (fun k => ⟨(fun z => nomatch z), (fun ⟨a, ha, _⟩ => absurd ha (Nat.not_lt_zero a))⟩)⟩ (fun i σ H' _ ⟨_, _, _, _, f, _⟩ => SqL.of (f _ _ hlD e1)) ?_ ?_
  · rintro i x σ H2 H3 hi ⟨y3, y4, l, rfl, k1, k2, k3, k4⟩ ⟨rfl, hx⟩
    rw [List.getElem?_map] at hx
    obtain ⟨ch, hch, rfl⟩ := Option.map_eq_some_iff.mp hx
    obtain ⟨a, ha, hca⟩ := e2.at' hch
    obtain ⟨hil, hie⟩ := List.getElem?_eq_some_iff.mp ha
    rw [List.getElem_range] at hie
    subst hie
    have hchD := hdD ch (List.mem_of_getElem? hch)
    have sH2 : Same H H3 := fun b o e => k1 b o (nD b o e) (sH _ _ e)
    refine ⟨_, rfl, pa, _, dxP, _, _, rfl, sH2 _ _ p1, c_Program T, n_Program_entries T, rfl, lE, rfl, ⟨_, SqL.of (sH2 _ _ p6)⟩, ?_⟩
    refine for_it walk_list (fun j σ H' => ∃ (x4 : Option V) (l : List Nat), σ = [some (.ref pa), some (.ref aw), some (.ref D), some (.ref ch), x4] ∧ (∀ b o, b ≠ D → H1 b = some o → H' b = some o) ∧ H' D = some (.dK (entKv l)) ∧ EntOk p l ∧
        ∀ k, k ∈ l ↔ (∃ a, a < i ∧ ∃ e ∈ p.starts, k ∈ (Vakepa.run p gone e (valuesOf p a)).entered) ∨ ∃ e ∈ p.starts.take j, k ∈ (Vakepa.run p gone e (valuesOf p i)).entered)
      ⟨y4, l, rfl, k1, k2, k3, fun k => by rw [k4]; exact ⟨.inl, fun z => z.elim id (fun ⟨e, he, _⟩ => nomatch he)⟩⟩ (fun j σ H' _ ⟨_, _, _, f, _⟩ => SqL.of (f _ _ (nD _ _ p6) (sH _ _ p6))) ?_ ?_
    · rintro j x σ H4 H5 hj ⟨y4, l, rfl, g1, g2, g3, g4⟩ ⟨rfl, hx⟩
      rw [List.getElem?_map] at hx
      obtain ⟨e, he, rfl⟩ := Option.map_eq_some_iff.mp hx
      have sH5 : Same H H5 := fun b o z => g1 b o (nD b o z) (sH _ _ z)
      refine ⟨_, rfl, _, rfl, _, rfl, _, rfl, fun x dx hx hd ne => ?_⟩
      have m1 : ∀ b o, H5 b = some o → upd (upd H5 dx (.own x)) x (.ins (He.ga K "Run") dx []) b = some o := fun b o z => by
        rw [upd_ne (ne_of_none z hx), upd_ne (ne_of_none z hd)]
        exact z
      refine ⟨x, dx, _, _, _, _, rfl, upd_same, fun H6 q1 q2 => ⟨rfl, ?_⟩⟩
      have s6 : Same H5 H6 := kept hx hd q2
      have hxD : x ≠ D := fun z => by rw [z, g2] at hx; cases hx
      let r : Rn := ⟨x, dx, pa, ch, aw, D, p, i, gone⟩
      have hoff : Same H (Off r.M H6) := same_off (sH5.trans s6) fun b hb => by
        simp only [Rn.M, List.mem_cons, List.not_mem_nil, or_false, r] at hb
        rcases hb with rfl | rfl
        · exact sH5.free hx
        · exact hD
      have hrun : RunS K H6 r 0 ⟨l, 0, 0⟩ := ⟨q1, s6 _ _ g2, g3, Nat.zero_le _, hw, hP.same hoff, off_some.mpr ⟨fun z => by
          simp only [Rn.M, List.mem_cons, List.not_mem_nil, or_false, r] at z
          rcases z with z | z
          · have := g1 ch _ hchD hca
            rw [show ch = x from z, hx] at this
            cases this
          · exact hchD z, s6 _ _ (g1 _ _ hchD hca)⟩, haw.same hoff⟩
      refine ⟨x, _, _, rfl, q1, rfl, _, rfl, r, e, ⟨l, 0, 0⟩, rfl, hrun, hw.eg e (List.mem_of_getElem? he), Nat.zero_le _, fun H7 f7 h7 => ?_⟩
      refine ⟨_, _, rfl, fun b o hb z => ?_, h7.ent, h7.ok, fun k => ?_⟩
      · have z5 := g1 b o hb z
        refine off_le _ _ (f7 b o (off_some.mpr ⟨fun m => ?_, s6 _ _ z5⟩))
        simp only [Rn.M, List.mem_cons, List.not_mem_nil, or_false, r] at m
        rcases m with rfl | rfl
        · rw [hx] at z5
          cases z5
        · exact hb rfl
      · have := run_enters (p := p) (out := gone) (v := valuesOf p i) (e := e) (k := k) (E := l)
        rw [show (callW r.p r.gone r.v 0 e ⟨l, 0, 0⟩).ent = (callW p gone (valuesOf p i) 0 e ⟨l, 0, 0⟩).ent from rfl, this, g4, List.take_add_one, he]
        constructor
        · rintro ((z | ⟨e', h1, h2⟩) | z)
          · exact .inl z
          · exact .inr ⟨e', List.mem_append_left _ h1, h2⟩
          · exact .inr ⟨e, List.mem_append_right _ (List.mem_singleton.mpr rfl), z⟩
        · rintro (z | ⟨e', h1, h2⟩)
          · exact .inl (.inl z)
          · rcases List.mem_append.mp h1 with h1 | h1
            · exact .inl (.inr ⟨e', h1, h2⟩)
            · rw [List.mem_singleton.mp h1] at h2
              exact .inr h2
    · rintro σ H4 ⟨y4, l, rfl, g1, g2, g3, g4⟩
      refine ⟨_, _, l, rfl, g1, g2, g3, fun k => ?_⟩
      rw [g4, List.length_map, List.take_length]
      constructor
      · rintro (⟨a, ha, z⟩ | z)
        · exact ⟨a, by omega, z⟩
        · exact ⟨i, by omega, z⟩
      · rintro ⟨a, ha, z⟩
        rcases Nat.lt_or_ge a i with h | h
        · exact .inl ⟨a, h, z⟩
        · rw [show a = i by omega] at z
          exact .inr z
  · rintro σ H2 ⟨y3, y4, l, rfl, k1, k2, k3, k4⟩
    refine ⟨_, rfl, q D l H2 (fun b o e => k1 b o (nD b o e) (sH _ _ e)) hD k2 k3 fun k => ?_⟩
    rw [k4, mem_enters, List.length_map, hdl]
    constructor
    · rintro ⟨a, ha, e, he, z⟩
      exact ⟨k3.2 k ((k4 k).mpr ⟨a, by rw [List.length_map, hdl]; exact ha, e, he, z⟩), e, he, a, ha, z⟩
    · rintro ⟨_, e, he, a, ha, z⟩
      exact ⟨a, ha, e, he, z⟩
end
end Vf

set_option Elab.async false
set_option linter.all false
set_option maxRecDepth 100000
set_option maxHeartbeats 4000000
/-! What leads to what, over the code. -/
namespace Vf
open PySem PySem.Spec PyProof.Rows L2
open VakepBase (Bytes)
open Vakepa (Piece Prog showPiece valuesBy valuesOf counts total pieceText madeName partNamed bodyOf mark nameOf)
section
variable {P : Program} {w : World} {K : PySem.W.Frag} {mg : Str → Option Value} {base : Heap}
/-- a tuple as a target within a comprehension -/
theorem pg_tupK {X : Cx} {K : PySem.W.Frag} {es : List Expr} {k : Nat} {pos : Pos} {t : TGs} {n : Nat} (hK : X.K = K) (hc : X.calm = true) (h : PGs X es t) (hn : (assignEach es X.env).length = n) (hst : (assignEach es X.env).findIdx? (·.1) = none) : PG X (.Tuple es k pos) (gTup K n t) := by
  subst hK
  exact pg_tup hc h hn hst
/-- the pairs of a dict of names told -/
def nmKv (l : List Bytes) : List (Key × V) := l.map fun b => (Sum.inr (tx b), .bl true)
def markB (b : Bytes) (l : List Bytes) : List Bytes := if l.contains b = true then l else l ++ [b]
theorem any_nm (b : Bytes) (l : List Bytes) : ((nmKv l).any fun kv => decide (kv.1 = (Sum.inr (tx b) : Key))) = l.contains b := by
  unfold nmKv
  rw [List.any_map, List.contains_eq_any_beq]
  congr 1
  funext x
  show decide ((Sum.inr (tx x) : Key) = Sum.inr (tx b)) = (b == x)
  rw [Bool.eq_iff_iff, decide_eq_true_eq, beq_iff_eq]
  exact key_eq.trans ⟨Eq.symm, Eq.symm⟩
theorem put_nm (b : Bytes) (l : List Bytes) : putK (nmKv l) (Sum.inr (tx b)) (.bl true) = nmKv (markB b l) := by
  unfold putK markB
  rw [any_nm]
  split
  · unfold nmKv
    rw [List.map_map]
    refine List.map_congr_left fun x _ => ?_
    show (if _ then _ else _) = _
    split <;> rfl
  · unfold nmKv
    rw [List.map_append] <;> rfl
theorem get_nm (b : Bytes) (l : List Bytes) : (valV (nmKv l) (Sum.inr (tx b) : Key)).isSome = l.contains b := by
  rw [← valV_any, any_nm]
theorem mem_markB {b c : Bytes} {l : List Bytes} : b ∈ markB c l ↔ b = c ∨ b ∈ l := by
  unfold markB
  split
  · rename_i h
    have := List.contains_iff_mem.mp h
    exact ⟨.inr, fun z => z.elim (fun e => by rw [e]; exact this) id⟩
  · rw [List.mem_append, List.mem_singleton]
    exact ⟨fun z => z.elim .inr .inl, fun z => z.elim .inr .inl⟩
theorem len_markB {c : Bytes} {l : List Bytes} : (markB c l).length ≤ l.length + 1 := by
  unfold markB
  split
  · exact Nat.le_succ _
  · rw [List.length_append]
    exact Nat.le_refl _
theorem nm_len (l : List Bytes) : (nmKv l).length = l.length := List.length_map _
abbrev N_tell_names : List Str := ["body", "choice", "in_any_when", "told", "statement"]
abbrev P_tell_names : List Str := ["body", "choice", "in_any_when", "told"]
theorem sc_tell_names : FnScope N_tell_names P_tell_names (defScope s_tell_names) := ⟨rfl, rfl, rfl, by decide +kernel, rfl, by decide +kernel, by decide +kernel⟩
def sp_tell_names (q : Nat) (K : PySem.W.Frag) : Sp := fun vs H Q _ => ∃ (l ch td : Addr) (any : Bool) (p : Prog) (a : Nat) (us : List V) (st : BStmt) (ns : List Bytes), vs = [.ref l, .ref ch, .bl any, .ref td] ∧ Wfp p ∧ q ≤ 3 ∧
  Off [td] H l = some (.lst us) ∧ SBodyAt K p (Off [td] H) st us ∧ SGood p.sets p.parts.length q st ∧ ChAt p (Off [td] H) ch a ∧ H td = some (.dK (nmKv ns)) ∧ ns.length + scost st ≤ 1000000 ∧
  ∀ H' ns', Same (Off [td] H) (Off [td] H') → H' td = some (.dK (nmKv ns')) → ns'.length ≤ ns.length + scost st → (∀ b, b ∈ ns' ↔ b ∈ ns ∨ b ∈ namesIn p (valuesOf p a) any st) → Q .non H'
theorem off1_upd {td : Addr} {H : Hp} {o : HO} : Same (Off [td] H) (Off [td] (upd H td o)) := by
  rw [off_upd (List.mem_singleton.mpr rfl)]
  exact Same.refl _
theorem cost_pos : ∀ {st : BStmt}, st ≠ .done → 1 + scost (restS st) ≤ scost st
  | .done, h => absurd rfl h
  | .say _ r, _ => by show 1 + scost r ≤ 3 + scost r; omega
  | .call _ r, _ => by show 1 + scost r ≤ 3 + scost r; omega
  | .make ps r, _ => by show 1 + scost r ≤ 1 + 2 * ps.length + scost r; omega
  | .when_ _ _ b r, _ => by show 1 + scost r ≤ 5 + scost b + scost r; omega
theorem ok_tell_names (T : Tx K mg) (D_made_name : Df P w K mg base CX0 (1) (He.ga K "made_name") P_made_name (sp_made_name K)) (D_holds : Df P w K mg base CX0 (1) (He.ga K "holds") P_holds (sp_holds K)) {k q : Nat} (hk : 1 ≤ k) (D_tell_names : Df P w K mg base CX0 k (He.ga K "tell_names") P_tell_names (sp_tell_names (q + 1) K)) : Df P w K mg base CX0 (k+1) (He.ga K "tell_names") P_tell_names (sp_tell_names q K) := by
  refine df_mk (F_tell_names T) sc_tell_names (fun _ _ _ _ _ _ us hl => match us, hl with | [_, _, _, _], _ => rfl) (fun vs H Q E h => by obtain ⟨_, _, _, _, _, _, _, _, _, rfl, _⟩ := h; rfl) (fun cdv A outer s H vs Q E hr h => ⟨_, (pss_one (ps_for PassesOwn.never rfl (pi_list (pv 0)) (pg_name (i := 4) sc_tell_names.nd rfl (Or.inl rfl)) (pss_one (ps_if (pt_val (pe_callB call_isi (by rfl) (b_isinstance T) (by decide +kernel) (pa_cons (pv 4) (pa_cons (pgo (g_Call T)) pa_nil)))) (pss_one (ps_dput (hu_of hr) (pv 3) (pe_fld (pv 4) rfl) pe_bl rfl)) (pss_one (ps_if (pt_val (pe_callB call_isi (by rfl) (b_isinstance T) (by decide +kernel) (pa_cons (pv 4) (pa_cons (pgo (g_Make T)) pa_nil)))) (pss_one (ps_dput (hu_of hr) (pv 3) (pf D_made_name (g_made_name T) hr (pa_cons (pv 4) (pa_cons (pv 1) pa_nil))) pe_bl rfl)) (pss_one (ps_if (pt_val (pe_callB call_isi (by rfl) (b_isinstance T) (by decide +kernel) (pa_cons (pv 4) (pa_cons (pgo (g_When T)) pa_nil)))) (pss_one (ps_if (PW.pt (pw_or (pt_val (pv 2)) (pw_or1 (pt_val (pf D_holds (g_holds T) hr (pa_cons (pv 4) (pa_cons (pv 1) pa_nil))))))) (pss_one (ps_expr (pf D_tell_names (g_tell_names T) hr (pa_cons (pe_fld (pv 4) rfl) (pa_cons (pv 1) (pa_cons (pv 2) (pa_cons (pv 3) pa_nil))))))) pss_nil)) pss_nil)))))))), ?_⟩)
  obtain ⟨l, ch, td, any, p, a, us, st, ns, rfl, hw, hq, hl, hb, hg, hc, ht, hn, q'⟩ := h
  refine ⟨_, rfl, l, rfl, ⟨_, SqL.of (off_le _ _ hl)⟩, ?_⟩
  refine for_it walk_list (fun i σ H' => ∃ (x : Option V) (st' : BStmt) (ns' : List Bytes), σ = [some (.ref l), some (.ref ch), some (.bl any), some (.ref td), x] ∧ Same (Off [td] H) (Off [td] H') ∧ H' td = some (.dK (nmKv ns')) ∧ SBodyAt K p (Off [td] H) st' (us.drop i) ∧ SGood p.sets p.parts.length q st' ∧
      ns'.length + scost st' ≤ ns.length + scost st ∧ ∀ b, (b ∈ ns' ∨ b ∈ namesIn p (valuesOf p a) any st') ↔ (b ∈ ns ∨ b ∈ namesIn p (valuesOf p a) any st))
    ⟨none, st, ns, rfl, Same.refl _, ht, hb, hg, Nat.le_refl _, fun _ => Iff.rfl⟩ (fun i σ H' _ ⟨_, _, _, _, f, _⟩ => SqL.of (off_le _ _ (f _ _ hl))) ?_ ?_
  · rintro i x σ H1 H2 hi ⟨y, st', ns', rfl, f1, h1, hb1, hg1, hn1, e1⟩ ⟨rfl, hx⟩
    rw [drop_get hx] at hb1
    rcases body_head hb1 with ⟨_, z⟩ | ⟨hne, x, ws, hus, hh, hr1⟩
    · exact nomatch z
    obtain ⟨rfl, rfl⟩ := List.cons.inj hus
    have hgr := good_rest hg1
    have hcp := cost_pos hne
    have hsz : (nmKv ns').length < sizeLine := by
      rw [nm_len]
      exact Nat.lt_of_le_of_lt (show ns'.length ≤ 1000000 by omega) (by decide)
    cases st' with
    | done => exact absurd rfl hne
    | say k b =>
      obtain ⟨dx, hx'⟩ := hh
      replace hx' := off_le _ _ (f1 _ _ hx')
      have hiC := is_stmt T "Call" (by decide +kernel) (by decide +kernel) hx' (c_Say T)
      have hiM := is_stmt T "Make" (by decide +kernel) (by decide +kernel) hx' (c_Say T)
      have hiW := is_stmt T "When" (by decide +kernel) (by decide +kernel) hx' (c_Say T)
      refine ⟨_, rfl, _, _, _, _, _, rfl, .own _, hiC.1, hiC.2, _, rfl, iteD (fun z => absurd z (by decide +kernel)) (fun _ => ?_)⟩
      refine ⟨_, rfl, _, _, _, _, _, rfl, .own _, hiM.1, hiM.2, _, rfl, iteD (fun z => absurd z (by decide +kernel)) (fun _ => ?_)⟩
      refine ⟨_, rfl, _, _, _, _, _, rfl, .own _, hiW.1, hiW.2, _, rfl, iteD (fun z => absurd z (by decide +kernel)) (fun _ => ?_)⟩
      exact ⟨_, b, ns', rfl, f1, h1, hr1, hgr, by have : 1 + scost b ≤ scost (.say k b) := hcp; omega, e1⟩
    | call k b =>
      obtain ⟨dx, hx'⟩ := hh
      replace hx' := off_le _ _ (f1 _ _ hx')
      have hiC := is_stmt T "Call" (by decide +kernel) (by decide +kernel) hx' (c_Call T)
      refine ⟨_, rfl, _, _, _, _, _, rfl, .own _, hiC.1, hiC.2, _, rfl, iteD (fun _ => ?_) (fun z => absurd rfl z)⟩
      refine ⟨_, rfl, _, rfl, x, _, dx, _, _, rfl, hx', c_Call T, n_Call_name T, rfl, td, _, rfl, DPut.k (k := Sum.inr (tx (nameOf p k))) h1 hsz, ?_⟩
      rw [put_nm]
      refine ⟨_, b, markB (nameOf p k) ns', rfl, f1.trans off1_upd, upd_same, hr1, hgr, ?_, fun c => ?_⟩
      · have := len_markB (c := nameOf p k) (l := ns')
        have : 1 + scost b ≤ scost (.call k b) := hcp
        omega
      · rw [← e1, mem_markB]
        show _ ↔ c ∈ ns' ∨ c ∈ nameOf p k :: namesIn p (valuesOf p a) any b
        rw [List.mem_cons]
        constructor
        · rintro ((z | z) | z)
          · exact .inr (.inl z)
          · exact .inl z
          · exact .inr (.inr z)
        · rintro (z | z | z)
          · exact .inl (.inr z)
          · exact .inl (.inl z)
          · exact .inr z
    | make ps b =>
      obtain ⟨dx, lp, hx', hlp⟩ := hh
      replace hx' := off_le _ _ (f1 _ _ hx')
      replace hlp := off_le _ _ (f1 _ _ hlp)
      have hiC := is_stmt T "Call" (by decide +kernel) (by decide +kernel) hx' (c_Make T)
      have hiM := is_stmt T "Make" (by decide +kernel) (by decide +kernel) hx' (c_Make T)
      refine ⟨_, rfl, _, _, _, _, _, rfl, .own _, hiC.1, hiC.2, _, rfl, iteD (fun z => absurd z (by decide +kernel)) (fun _ => ?_)⟩
      refine ⟨_, rfl, _, _, _, _, _, rfl, .own _, hiM.1, hiM.2, _, rfl, iteD (fun _ => ?_) (fun z => absurd rfl z)⟩
      refine ⟨_, rfl, _, rfl, _, rfl, x, dx, lp, ch, p, a, ps, rfl, hw, hx', hlp, off_le _ _ (f1 _ _ hc), hg1.1, hg1.2.1, fun H3 s3 => ?_⟩
      refine ⟨td, _, rfl, DPut.k (k := Sum.inr (tx (madeName p (valuesOf p a) ps))) (s3 _ _ h1) hsz, ?_⟩
      rw [put_nm]
      refine ⟨_, b, markB (madeName p (valuesOf p a) ps) ns', rfl, (f1.trans (off_same s3)).trans off1_upd, upd_same, hr1, hgr, ?_, fun c => ?_⟩
      · have := len_markB (c := madeName p (valuesOf p a) ps) (l := ns')
        have : 1 + scost b ≤ scost (.make ps b) := hcp
        omega
      · rw [← e1, mem_markB]
        show _ ↔ c ∈ ns' ∨ c ∈ madeName p (valuesOf p a) ps :: namesIn p (valuesOf p a) any b
        rw [List.mem_cons]
        constructor
        · rintro ((z | z) | z)
          · exact .inr (.inl z)
          · exact .inl z
          · exact .inr (.inr z)
        · rintro (z | z | z)
          · exact .inl (.inr z)
          · exact .inl (.inl z)
          · exact .inr z
    | when_ y v c b =>
      obtain ⟨dx, lb, us', hx', hlb, hbb⟩ := hh
      have hx2 := off_le _ _ (f1 _ _ hx')
      obtain ⟨⟨S, hS, hv⟩, hq3, hgc, hgb⟩ := id hg1
      have hiC := is_stmt T "Call" (by decide +kernel) (by decide +kernel) hx2 (c_When T)
      have hiM := is_stmt T "Make" (by decide +kernel) (by decide +kernel) hx2 (c_When T)
      have hiW := is_stmt T "When" (by decide +kernel) (by decide +kernel) hx2 (c_When T)
      refine ⟨_, rfl, _, _, _, _, _, rfl, .own _, hiC.1, hiC.2, _, rfl, iteD (fun z => absurd z (by decide +kernel)) (fun _ => ?_)⟩
      refine ⟨_, rfl, _, _, _, _, _, rfl, .own _, hiM.1, hiM.2, _, rfl, iteD (fun z => absurd z (by decide +kernel)) (fun _ => ?_)⟩
      refine ⟨_, rfl, _, _, _, _, _, rfl, .own _, hiW.1, hiW.2, _, rfl, iteD (fun _ => ?_) (fun z => absurd rfl z)⟩
      have hcost : scost (.when_ y v c b) = 5 + scost c + scost b := rfl
      have hN : namesIn p (valuesOf p a) any (.when_ y v c b) = (if any = true ∨ (valuesOf p a).getD y 0 = v then namesIn p (valuesOf p a) any c else []) ++ namesIn p (valuesOf p a) any b := rfl
      have yes : ∀ ns4 : List Bytes, (any = true ∨ (valuesOf p a).getD y 0 = v) → (∀ d, d ∈ ns4 ↔ d ∈ ns' ∨ d ∈ namesIn p (valuesOf p a) any c) → ∀ d, (d ∈ ns4 ∨ d ∈ namesIn p (valuesOf p a) any b) ↔ (d ∈ ns ∨ d ∈ namesIn p (valuesOf p a) any st) := fun ns4 hcnd h4 d => by
        rw [← e1, hN, if_pos hcnd, List.mem_append, h4, or_assoc]
      have no : ¬ (any = true ∨ (valuesOf p a).getD y 0 = v) → ∀ d, (d ∈ ns' ∨ d ∈ namesIn p (valuesOf p a) any b) ↔ (d ∈ ns ∨ d ∈ namesIn p (valuesOf p a) any st) := fun hcnd d => by
        rw [← e1, hN, if_neg hcnd, List.nil_append]
      have hcost2 : ns'.length + scost c ≤ 1000000 := by omega
      refine ⟨_, rfl, any, rfl, ?_⟩
      refine iteB (fun ha => ?_) (fun ha => ?_)
      · refine ⟨_, rfl, x, _, dx, _, _, rfl, hx2, c_When T, n_When_body T, rfl, _, rfl, _, rfl, _, rfl, lb, ch, td, any, p, a, us', c, ns', rfl, hw, by omega, f1 _ _ hlb, hbb.same f1, hgc, f1 _ _ hc, h1, hcost2, fun H4 ns4 f4 h4 hl4 m4 => ?_⟩
        exact ⟨_, b, ns4, rfl, f1.trans f4, h4, hr1, hgr, by show ns4.length + scost b ≤ _; omega, yes ns4 (.inl ha) m4⟩
      · refine ⟨_, rfl, _, rfl, x, dx, ch, _, p, a, y, v, S, rfl, hw, hx2, off_le _ _ (f1 _ _ hc), hS, hv, _, rfl, ?_⟩
        refine iteD (fun hc2 => ?_) (fun hc2 => ?_)
        · refine ⟨_, rfl, x, _, dx, _, _, rfl, hx2, c_When T, n_When_body T, rfl, _, rfl, _, rfl, _, rfl, lb, ch, td, any, p, a, us', c, ns', rfl, hw, by omega, f1 _ _ hlb, hbb.same f1, hgc, f1 _ _ hc, h1, hcost2, fun H4 ns4 f4 h4 hl4 m4 => ?_⟩
          exact ⟨_, b, ns4, rfl, f1.trans f4, h4, hr1, hgr, by show ns4.length + scost b ≤ _; omega, yes ns4 (.inr hc2) m4⟩
        · exact ⟨_, b, ns', rfl, f1, h1, hr1, hgr, by show ns'.length + scost b ≤ _; omega, no fun z => z.elim (fun z => by rw [ha] at z; cases z) hc2⟩
  · rintro σ H1 ⟨y, st', ns', rfl, f1, h1, hb1, hg1, hn1, e1⟩
    rw [List.drop_length] at hb1
    rcases body_head hb1 with ⟨z, _⟩ | ⟨_, a, ws, z, _⟩
    · subst z
      refine q' H1 ns' f1 h1 (by have : 1 ≤ scost .done := Nat.le_refl _; omega) fun b => ?_
      rw [← e1]
      exact ⟨.inl, fun z => z.elim id (fun z => nomatch z)⟩
    · exact nomatch z
theorem no_names (T : Tx K mg) : Df P w K mg base CX0 1 (He.ga K "tell_names") P_tell_names (sp_tell_names 4 K) :=
  df_mk (k := 0) (F_tell_names T) sc_tell_names (fun _ _ _ _ _ _ us hl => match us, hl with | [_, _, _, _], _ => rfl) (fun vs H Q E h => by obtain ⟨_, _, _, _, _, _, _, _, _, rfl, _⟩ := h; rfl)
    fun cdv A outer s H vs Q E hr h => by
      obtain ⟨_, _, _, _, _, _, _, _, _, _, _, h1, _⟩ := h
      exact absurd h1 (by decide)
theorem ok_names0 (T : Tx K mg) (D_made_name : Df P w K mg base CX0 1 (He.ga K "made_name") P_made_name (sp_made_name K)) (D_holds : Df P w K mg base CX0 1 (He.ga K "holds") P_holds (sp_holds K)) :
    Df P w K mg base CX0 5 (He.ga K "tell_names") P_tell_names (sp_tell_names 0 K) := by
  have N3 := ok_tell_names (k := 1) T D_made_name D_holds (by decide) (no_names (P := P) (w := w) (base := base) T)
  have N2 := ok_tell_names T D_made_name D_holds (by decide) N3
  have N1 := ok_tell_names T D_made_name D_holds (by decide) N2
  exact ok_tell_names T D_made_name D_holds (by decide) N1
abbrev N_table_of : List Str := ["program", "choices", "in_any_when", "table", "part", "told", "choice", "number", "other"]
abbrev P_table_of : List Str := ["program", "choices", "in_any_when"]
theorem sc_table_of : FnScope N_table_of P_table_of (defScope s_table_of) := ⟨rfl, rfl, rfl, by decide +kernel, rfl, by decide +kernel, by decide +kernel⟩
/-- a table lies at T -/
def TabAt (H : Hp) (T : Addr) (t : Vakepb.Next) : Prop := ∃ rs : List Addr, H T = some (.lst (rs.map V.ref)) ∧ AtAll (fun a (r : List Nat) => H a = some (.lst (iv r))) rs t
theorem TabAt.same {H H' : Hp} (s : Same H H') {T : Addr} {t : Vakepb.Next} (h : TabAt H T t) : TabAt H' T t := by
  obtain ⟨rs, h1, h2⟩ := h
  exact ⟨rs, s _ _ h1, h2.mono fun _ _ e => s _ _ e⟩
/-- .. whose rows are new -/
def TabN (H0 H : Hp) (T : Addr) (t : Vakepb.Next) : Prop := ∃ rs : List Addr, H T = some (.lst (rs.map V.ref)) ∧ AtAll (fun a (r : List Nat) => H0 a = none ∧ H a = some (.lst (iv r))) rs t
theorem TabN.at {H0 H : Hp} {T : Addr} {t : Vakepb.Next} (h : TabN H0 H T t) : TabAt H T t := by
  obtain ⟨rs, h1, h2⟩ := h
  exact ⟨rs, h1, h2.mono fun _ _ e => e.2⟩
def sp_table_of (K : PySem.W.Frag) : Sp := fun vs H Q _ => ∃ (pa lc : Addr) (p : Prog) (ds : List Addr) (as : List Nat) (any : Bool), vs = [.ref pa, .ref lc, .bl any] ∧ ProgAt K H pa p ∧ Wfp p ∧ H lc = some (.lst (ds.map V.ref)) ∧ AtAll (ChAt p H) ds as ∧ as.length ≤ 64 ∧
  ∀ H' R, Same H H' → H R = none → TabN H H' R (rowsOf p as any) → Q (.ref R) H'
theorem ok_table_of (T : Tx K mg) (D_tell_names : Df P w K mg base CX0 5 (He.ga K "tell_names") P_tell_names (sp_tell_names 0 K)) : Df P w K mg base CX0 (6) (He.ga K "table_of") P_table_of (sp_table_of K) := by
  refine df_mk (F_table_of T) sc_table_of (fun _ _ _ _ _ _ us hl => match us, hl with | [_, _, _], _ => rfl) (fun vs H Q E h => by obtain ⟨_, _, _, _, _, _, rfl, _⟩ := h; rfl) (fun cdv A outer s H vs Q E hr h => ⟨_, (pss_cons (ps_set (i := 3) sc_table_of.nd rfl (Or.inl rfl) (pe_lst pa_nil)) (pss_cons (ps_for PassesOwn.never rfl (pi_list (pe_fld (pv 0) rfl)) (pg_name (i := 4) sc_table_of.nd rfl (Or.inl rfl)) (pss_cons (ps_set (i := 5) sc_table_of.nd rfl (Or.inr rfl) pe_dnewK) (pss_cons (ps_for PassesOwn.never rfl (pi_list (pv 1)) (pg_name (i := 6) sc_table_of.nd rfl (Or.inl rfl)) (pss_one (ps_expr (pf D_tell_names (g_tell_names T) hr (pa_cons (pe_fld (pv 4) rfl) (pa_cons (pv 6) (pa_cons (pv 2) (pa_cons (pv 5) pa_nil)))))))) (pss_one (ps_expr (pe_bm PySem.F.plainAttrs_list PySem.F.slot_list_append PySem.F.type_list_append mt_append (pv 3) (pa_cons (pe_lc rfl sc_table_of.nd (own := [("number", 7), ("other", 8)]) (pi_enum (by rfl) (b_enumerate T) (pa_cons (pe_fld (pv 0) rfl) pa_nil)) (blkOk_by (own := [("number", 7), ("other", 8)]) (N := N_table_of) (sc := defScope s_table_of) (by decide +kernel)) (fun _ _ _ _ _ => pg_tupK (K := K) (n := 2) rfl rfl (pgs_cons (pg_name (i := 7) sc_table_of.nd rfl (Or.inl rfl) (Or.inr rfl)) (pgs_cons (pg_name (i := 8) sc_table_of.nd rfl (Or.inl rfl) (Or.inr rfl)) pgs_nil)) rfl rfl) (fun _ _ _ _ _ => pts_one ((pt_cmp (pc_din (hu_of hr) (pe_fldK (K := K) rfl (pv 8) rfl) (pv 5))))) (fun _ _ _ _ _ => (pv 7))) pa_nil))))))) (pss_one (ps_ret (pv 3))))), ?_⟩)
  obtain ⟨pa, lc, p, ds, as, any, rfl, hP, hw, hlc, hds, has, q⟩ := h
  obtain ⟨dxP, lS, lP, lE, dN, sa, pl, p1, p2, p3, p4, p5, p6, p7⟩ := id hP
  have hdl : ds.length = as.length := hds.len
  have hpl : pl.length = p.parts.length := p5.len
  refine ⟨by decide, fun R hR => ?_⟩
  refine ⟨_, rfl, pa, _, dxP, _, _, rfl, same_new hR _ _ p1, c_Program T, n_Program_parts T, rfl, lP, rfl, ⟨_, SqL.of (same_new hR _ _ p4)⟩, ?_⟩
  refine for_it walk_list (fun i σ H' => ∃ (x4 x5 x6 : Option V) (rs : List Addr), σ = [some (.ref pa), some (.ref lc), some (.bl any), some (.ref R), x4, x5, x6, none, none] ∧ Same H H' ∧ H' R = some (.lst (rs.map V.ref)) ∧ AtAll (fun a (r : List Nat) => (a ≠ R ∧ H a = none) ∧ H' a = some (.lst (iv r))) rs ((rowsOf p as any).take i))
    ⟨none, none, none, [], rfl, same_new hR, upd_same, .nil⟩ (fun i σ H' _ ⟨_, _, _, _, _, f, _⟩ => SqL.of (f _ _ p4)) ?_ ?_
  · rintro i x σ H1 H2 hi ⟨x4, x5, x6, rs, rfl, f1, h1, h2⟩ ⟨rfl, hx⟩
    rw [List.getElem?_map] at hx
    obtain ⟨pp, hpp, rfl⟩ := Option.map_eq_some_iff.mp hx
    obtain ⟨x, hxi, dxp, lb, us, g1, g2, g3⟩ := p5.at' hpp
    have hgood := hw.pg x (List.mem_of_getElem? hxi)
    have hrl : rs.length = i := by
      have := h2.len
      rw [List.length_take, Nat.min_eq_left] at this
      · exact this
      · unfold rowsOf
        rw [List.length_map]
        exact Nat.le_of_lt (List.getElem?_eq_some_iff.mp hxi).1
    refine fun td htd => ?_
    have htdH : H td = none := f1.free htd
    have s3 := same_new (o := .dK []) htd
    have e3 : upd H2 td (.dK []) td = some (.dK []) := upd_same
    generalize upd H2 td (.dK []) = H3 at s3 e3 ⊢
    have o3 : Same H (Off [td] H3) := same_off (f1.trans s3) fun b hb => by rw [List.mem_singleton.mp hb]; exact htdH
    refine ⟨_, rfl, lc, rfl, ⟨_, SqL.of (s3 _ _ (f1 _ _ hlc))⟩, ?_⟩
    refine for_it walk_list (fun j σ H' => ∃ (x6 : Option V) (ns : List Bytes), σ = [some (.ref pa), some (.ref lc), some (.bl any), some (.ref R), some (.ref pp), some (.ref td), x6, none, none] ∧ Same (Off [td] H3) (Off [td] H') ∧ H' td = some (.dK (nmKv ns)) ∧ ns.length ≤ j * 5000 ∧ ∀ b, b ∈ ns ↔ b ∈ namesAll p (as.take j) any x.body)
      ⟨x6, [], rfl, Same.refl _, e3, Nat.zero_le _, fun b => ⟨(fun z => nomatch z), (fun z => by rw [List.take_zero] at z; exact nomatch z)⟩⟩ (fun j σ H' _ ⟨_, _, _, f, _⟩ => SqL.of (off_le _ _ (f _ _ (o3 _ _ hlc)))) ?_ ?_
    · rintro j y σ H4 H5 hj ⟨y6, ns, rfl, k1, k2, k3, k4⟩ ⟨rfl, hy⟩
      rw [List.getElem?_map] at hy
      obtain ⟨ch, hch, rfl⟩ := Option.map_eq_some_iff.mp hy
      obtain ⟨a, ha, hca⟩ := hds.at' hch
      have o5 : Same H (Off [td] H5) := o3.trans k1
      have hj' : j < as.length := (List.getElem?_eq_some_iff.mp ha).1
      refine ⟨_, rfl, pp, _, dxp, _, _, rfl, off_le _ _ (o5 _ _ g1), c_Part T, n_Part_body T, rfl, _, rfl, _, rfl, _, rfl, lb, ch, td, any, p, a, us, x.body, ns, rfl, hw, by decide, o5 _ _ g2, g3.same o5, hgood.2.2.2.1, o5 _ _ hca, k2, ?_, fun H6 ns6 f6 h6 l6 m6 => ?_⟩
      · have := hgood.2.2.2.2
        have : j * 5000 ≤ 64 * 5000 := Nat.mul_le_mul_right _ (by omega)
        omega
      · refine ⟨_, ns6, rfl, k1.trans f6, h6, ?_, fun b => ?_⟩
        · have := hgood.2.2.2.2
          rw [Nat.add_mul]
          omega
        · rw [m6, k4]
          unfold namesAll
          rw [List.take_add_one, ha, Option.toList, List.flatMap_append, List.mem_append, List.flatMap_cons, List.flatMap_nil, List.append_nil]
    · rintro σ H4 ⟨y6, ns, rfl, k1, k2, k3, k4⟩
      rw [List.length_map, hdl, List.take_length] at k4
      have o4 : Same H H4 := (o3.trans k1).trans off_le
      have hRtd : R ≠ td := ne_of_none h1 htd
      have hR4 : H4 R = some (.lst (rs.map V.ref)) := off_le _ _ (k1 _ _ (off_some.mpr ⟨fun z => hRtd (List.mem_singleton.mp z), s3 _ _ h1⟩))
      refine ⟨_, rfl, .inl ⟨rfl, _, SqL.of hR4⟩, _, rfl, pa, _, dxP, _, _, rfl, o4 _ _ p1, c_Program T, n_Program_parts T, rfl, lP, _, rfl, SqL.of (o4 _ _ p4), fun D hD => ?_⟩
      refine lc_it walk_enum (fun j H' => Same H4 H' ∧ H' D = some (.lst (iv ((List.range j).filter fun k => decide (nameOf p k ∈ ns))))) ⟨same_new hD, upd_same⟩ (fun j H' _ h => SqL.of (h.1 _ _ (o4 _ _ p4))) ?_ ?_
      · rintro j z H5 H6 hj ⟨q1, q2⟩ ⟨Tp, v1, v2, rfl, hT, rfl, e1, e2⟩
        cases e1
        dsimp only at e2
        rw [List.getElem?_map] at e2
        obtain ⟨pq, hpq, rfl⟩ := Option.map_eq_some_iff.mp e2
        obtain ⟨z, hz, dxq, lq, uq, r1, r2, r3⟩ := p5.at' hpq
        have hjl := (List.getElem?_eq_some_iff.mp hz).1
        have hname : z.name = nameOf p j := by
          unfold nameOf
          rw [hz] <;> rfl
        have sT : Same H5 (upd H5 Tp (.tup [V.int j, V.ref pq])) := same_new hT
        have w1 : Same H4 (upd H5 Tp (.tup [V.int j, V.ref pq])) := q1.trans sT
        have eD : upd H5 Tp (.tup [V.int j, V.ref pq]) D = some (.lst (iv ((List.range j).filter fun k => decide (nameOf p k ∈ ns)))) := sT _ _ q2
        refine ⟨Tp, _, rfl, .inl (.inl upd_same), rfl, _, _, rfl, _, _, rfl, rfl, rfl, ?_⟩
        refine ⟨_, rfl, pq, _, dxq, _, _, rfl, w1 _ _ (o4 _ _ r1), c_Part T, n_Part_name T, rfl, _, rfl, td, _, rfl, DGet.k (k := Sum.inr (tx z.name)) (w1 _ _ k2), _, rfl, ?_⟩
        rw [get_nm, hname]
        refine iteB (fun hc => ?_) (fun hc => ?_)
        · refine ⟨_, rfl, _, eD, ?_, same_upd w1 hD, ?_⟩
          · unfold iv
            rw [List.length_map]
            refine Nat.lt_of_le_of_lt (List.length_filter_le _ _) ?_
            rw [List.length_range]
            exact Nat.lt_of_lt_of_le hjl (Nat.le_trans hw.p10 (by decide))
          · rw [upd_same, List.range_succ, List.filter_append, List.filter_cons, if_pos (decide_eq_true (List.contains_iff_mem.mp hc)), List.filter_nil]
            unfold iv
            rw [List.map_append] <;> rfl
        · refine ⟨w1, ?_⟩
          have hnm : ¬ nameOf p j ∈ ns := fun z => by rw [List.contains_iff_mem.mpr z] at hc; cases hc
          rw [eD, List.range_succ, List.filter_append, List.filter_cons, if_neg (by rw [decide_eq_false hnm]; decide), List.filter_nil, List.append_nil]
      · rintro H5 ⟨q1, q2⟩
        rw [List.length_map, hpl] at q2
        have hD1 : H2 D = none := by
          cases e : H2 D with
          | none => rfl
          | some o =>
            by_cases hdt : D = td
            · rw [hdt, k2] at hD
              cases hD
            · have := off_le _ _ (k1 _ _ (off_some.mpr ⟨fun z => hdt (List.mem_singleton.mp z), s3 _ _ e⟩))
              rw [hD] at this
              cases this
        have hDR : D ≠ R := fun z => by rw [z, h1] at hD1; cases hD1
        have hDH : H D = none := f1.free hD1
        have hrow : (rowsOf p as any)[i]? = some (rowOf p ns) := by
          unfold rowsOf
          rw [List.getElem?_map, hxi]
          show some (rowOf p _) = _
          rw [rowOf_same k4]
        refine ⟨R, _, _, rfl, rfl, q1 _ _ hR4, ?_, some (.ref pp), some (.ref td), y6, rs ++ [D], rfl, ?_, by rw [upd_same, List.map_append] <;> rfl, ?_⟩
        · rw [List.length_map, hrl]
          exact Nat.lt_of_lt_of_le (List.getElem?_eq_some_iff.mp hxi).1 (Nat.le_trans hw.p10 (by decide))
        · refine fun b o e => ?_
          rw [upd_ne (ne_of_none e hR)]
          exact q1 _ _ (o4 _ _ e)
        · rw [List.take_add_one, hrow]
          have h3 : AtAll (fun a (r : List Nat) => (a ≠ R ∧ H a = none) ∧ upd H5 R (.lst (rs.map V.ref ++ [V.ref D])) a = some (.lst (iv r))) rs ((rowsOf p as any).take i) := h2.mono fun a r z => ⟨z.1, by
            rw [upd_ne z.1.1]
            refine q1 _ _ (off_le _ _ (k1 _ _ (off_some.mpr ⟨fun y => ?_, s3 _ _ z.2⟩)))
            have z2 := z.2
            rw [List.mem_singleton.mp y, htd] at z2
            cases z2⟩
          exact h3.push ⟨⟨hDR, hDH⟩, by rw [upd_ne hDR, q2]; rfl⟩
  · rintro σ H1 ⟨x4, x5, x6, rs, rfl, f1, h1, h2⟩
    have hfull : (rowsOf p as any).take (pl.map V.ref).length = rowsOf p as any := by
      rw [List.length_map, hpl]
      refine List.take_of_length_le ?_
      unfold rowsOf
      rw [List.length_map]
      exact Nat.le_refl _
    rw [hfull] at h2
    exact ⟨_, rfl, q H1 R f1 hR ⟨rs, h1, h2.mono fun _ _ z => ⟨z.1.2, z.2⟩⟩⟩
end
end Vf

set_option Elab.async false
set_option linter.all false
set_option maxRecDepth 100000
set_option maxHeartbeats 4000000
/-! The tables of a mode; chains. -/
namespace Vf
open PySem PySem.Spec PyProof.Rows L2
open VakepBase (Bytes)
open Vakepa (Piece Prog showPiece valuesBy valuesOf counts total pieceText madeName partNamed bodyOf mark nameOf)
open Vakepb (tables nextBy nextAny)
section
variable {P : Program} {w : World} {K : PySem.W.Frag} {mg : Str → Option Value} {base : Heap}
abbrev N_tables_of : List Str := ["program", "mode", "choices", "choice"]
abbrev P_tables_of : List Str := ["program", "mode"]
theorem sc_tables_of : FnScope N_tables_of P_tables_of (defScope s_tables_of) := ⟨rfl, rfl, rfl, by decide +kernel, rfl, by decide +kernel, by decide +kernel⟩
def TabsAt (H : Hp) (a : Addr) (ts : List Vakepb.Next) : Prop := ∃ as : List Addr, H a = some (.lst (as.map V.ref)) ∧ AtAll (TabAt H) as ts
theorem TabsAt.same {H H' : Hp} (s : Same H H') {a : Addr} {ts : List Vakepb.Next} (h : TabsAt H a ts) : TabsAt H' a ts := by
  obtain ⟨as, h1, h2⟩ := h
  exact ⟨as, s _ _ h1, h2.mono fun _ _ => TabAt.same s⟩
def sp_tables_of (K : PySem.W.Frag) : Sp := fun vs H Q _ => ∃ (pa : Addr) (p : Prog) (m : Nat), vs = [.ref pa, .int m] ∧ m < 2 ∧ ProgAt K H pa p ∧ Wfp p ∧ ∀ H' R, Same H H' → H R = none → TabsAt H' R (tables p m) → Q (.ref R) H'
theorem ok_tables_of (T : Tx K mg) (D_choices_of : Df P w K mg base CX0 (2) (He.ga K "choices_of") P_choices_of (sp_choices_of K)) (D_table_of : Df P w K mg base CX0 (6) (He.ga K "table_of") P_table_of (sp_table_of K)) : Df P w K mg base CX0 (7) (He.ga K "tables_of") P_tables_of (sp_tables_of K) := by
  refine df_mk (F_tables_of T) sc_tables_of (fun _ _ _ _ _ _ us hl => match us, hl with | [_, _], _ => rfl) (fun vs H Q E h => by obtain ⟨_, _, _, rfl, _⟩ := h; rfl) (fun cdv A outer s H vs Q E hr h => ⟨_, (pss_cons (ps_set (i := 2) sc_tables_of.nd rfl (Or.inl rfl) (pf D_choices_of (g_choices_of T) hr (pa_cons (pv 0) pa_nil))) (pss_cons (ps_if (pt_cmpR op_eq (pv 1) (pg (i_BY_BRANCHES T)) (nomark _)) (pss_one (ps_ret (pe_lst (pa_cons (pf D_table_of (g_table_of T) hr (pa_cons (pv 0) (pa_cons (pv 2) (pa_cons pe_bl pa_nil)))) pa_nil)))) pss_nil) (pss_one (ps_ret (pe_lc rfl sc_tables_of.nd (own := [("choice", 3)]) (pi_list (pv 2)) (blkOk_by (own := [("choice", 3)]) (N := N_tables_of) (sc := defScope s_tables_of) (by decide +kernel)) (fun _ _ _ _ _ => pg_name (i := 3) sc_tables_of.nd rfl (Or.inl rfl)) (fun _ _ _ _ _ => pts_nil) (fun _ _ _ _ _ => (pf D_table_of (g_table_of T) hr (pa_cons (pv 0) (pa_cons (pe_lst (pa_cons (pv 3) pa_nil)) (pa_cons pe_bl pa_nil)))))))))), ?_⟩)
  obtain ⟨pa, p, m, rfl, hm, hP, hw, q⟩ := h
  refine ⟨_, rfl, pa, p, rfl, hP, hw, fun lc ds H1 s1 hlc e1 e2 e3 => ?_⟩
  obtain ⟨ht, ht1⟩ := total_le hw
  refine ⟨_, rfl, rfl, _, rfl, ?_⟩
  refine iteD (fun hm1 => ?_) (fun hm1 => ?_)
  · have hm' : m = 1 := by
      injection hm1 with hm1
      omega
    subst hm'
    refine ⟨_, rfl, _, rfl, pa, lc, p, ds, List.range (total p), true, rfl, hP.same s1, hw, e1, e2, by rw [List.length_range]; exact ht, fun H2 R s2 hR hT => ⟨by show 1 ≤ sizeLine; decide, fun L hL => ?_⟩⟩
    have s3 := same_new (o := .lst [V.ref R]) hL
    refine q _ L ((s1.trans s2).trans s3) (s1.free (s2.free hL)) ⟨[R], upd_same, ?_⟩
    have e : tables p 1 = [rowsOf p (List.range (total p)) true] := by
      rw [rows_all hw ht1] <;> rfl
    rw [e]
    exact .cons (hT.at.same s3) .nil
  · have hm' : m = 0 := by
      rcases Nat.lt_or_ge m 1 with z | z
      · omega
      · exact absurd (by rw [show m = 1 by omega] <;> rfl) hm1
    subst hm'
    have htab : tables p 0 = (List.range (total p)).map (nextBy p) := rfl
    have hdl : ds.length = total p := by rw [e2.len, List.length_range]
    refine ⟨_, rfl, lc, rfl, ⟨_, SqL.of e1⟩, fun D hD => ?_⟩
    refine lc_it walk_list (fun j H' => ∃ ts : List Addr, Same H1 H' ∧ H' D = some (.lst (ts.map V.ref)) ∧ AtAll (fun T t => ∃ rs : List Addr, T ≠ D ∧ H' T = some (.lst (rs.map V.ref)) ∧ AtAll (fun a (r : List Nat) => a ≠ D ∧ H' a = some (.lst (iv r))) rs t) ts ((tables p 0).take j))
      ⟨[], same_new hD, upd_same, .nil⟩ (fun j H' _ ⟨_, f, _⟩ => SqL.of (f _ _ e1)) ?_ ?_
    · rintro j x H2 H3 hj ⟨ts, k1, k2, k3⟩ ⟨rfl, hx⟩
      rw [List.getElem?_map] at hx
      obtain ⟨ch, hch, rfl⟩ := Option.map_eq_some_iff.mp hx
      obtain ⟨a, ha, hca⟩ := e2.at' hch
      obtain ⟨hil, hie⟩ := List.getElem?_eq_some_iff.mp ha
      rw [List.getElem_range] at hie
      subst hie
      have hjl : j < total p := by rw [List.length_range] at hil; exact hil
      have htl : ts.length = j := by
        have := k3.len
        rw [List.length_take, Nat.min_eq_left] at this
        · exact this
        · rw [htab, List.length_map]
          exact Nat.le_of_lt hil
      refine ⟨rfl, _, rfl, _, rfl, by show 1 ≤ sizeLine; decide, fun L hL => ?_⟩
      have s4 := same_new (o := .lst [V.ref ch]) hL
      have e4 : upd H3 L (.lst [V.ref ch]) L = some (.lst ([ch].map V.ref)) := upd_same
      generalize upd H3 L (.lst [V.ref ch]) = H4 at s4 e4 ⊢
      have s14 := k1.trans s4
      refine ⟨pa, L, p, [ch], [j], false, rfl, (hP.same s1).same s14, hw, e4, .cons (s14 _ _ hca) .nil, (by show 1 ≤ 64; decide), fun H5 R s5 hR hT => ?_⟩
      have eD5 := s5 _ _ (s4 _ _ k2)
      refine ⟨_, eD5, ?_, ts ++ [R], same_upd (s14.trans s5) hD, by rw [upd_same, List.map_append] <;> rfl, ?_⟩
      · rw [List.length_map, htl]
        exact Nat.lt_of_lt_of_le hjl (Nat.le_trans ht (by decide))
      · have hrow : (tables p 0)[j]? = some (rowsOf p [j] false) := by
          rw [htab, List.getElem?_map, List.getElem?_eq_getElem hil, List.getElem_range, rows_one hw] <;> rfl
        rw [List.take_add_one, hrow]
        obtain ⟨rs, g1, g2⟩ := hT
        have hRD : R ≠ D := fun z => by rw [z, s4 _ _ k2] at hR; cases hR
        have old : AtAll (fun T t => ∃ rs : List Addr, T ≠ D ∧ upd H5 D (.lst (ts.map V.ref ++ [V.ref R])) T = some (.lst (rs.map V.ref)) ∧ AtAll (fun a (r : List Nat) => a ≠ D ∧ upd H5 D (.lst (ts.map V.ref ++ [V.ref R])) a = some (.lst (iv r))) rs t) ts ((tables p 0).take j) := k3.mono fun T t ⟨rs, z1, z2, z3⟩ => ⟨rs, z1, by rw [upd_ne z1]; exact s5 _ _ (s4 _ _ z2), z3.mono fun a r z => ⟨z.1, by rw [upd_ne z.1]; exact s5 _ _ (s4 _ _ z.2)⟩⟩
        refine old.push ⟨rs, hRD, by rw [upd_ne hRD]; exact g1, g2.mono fun a r z => ?_⟩
        have haD : a ≠ D := fun y => by
          have z1 := z.1
          rw [y, s4 _ _ k2] at z1
          cases z1
        exact ⟨haD, by rw [upd_ne haD]; exact z.2⟩
    · rintro H2 ⟨ts, k1, k2, k3⟩
      rw [List.length_map, hdl] at k3
      rw [List.take_of_length_le (by rw [htab, List.length_map, List.length_range]; exact Nat.le_refl _)] at k3
      exact q H2 D (s1.trans k1) (s1.free hD) ⟨ts, k2, k3.mono fun T t ⟨rs, z1, z2, z3⟩ => ⟨rs, z2, z3.mono fun _ _ z => z.2⟩⟩
end
end Vf

set_option Elab.async false
set_option linter.all false
set_option maxRecDepth 100000
set_option maxHeartbeats 4000000
/-! Chains over the code. -/
namespace Vf
open PySem PySem.Spec PyProof.Rows L2
section
variable {P : Program} {w : World} {K : PySem.W.Frag} {mg : Str → Option Value} {base : Heap}
/-- the pairs of a dict of chains -/
def chKv : List (List Nat) → List Addr → List (Key × V)
  | c :: cs, a :: as => (Sum.inl (lst c : Int), .ref a) :: chKv cs as
  | _, _ => []
theorem chKv_len : ∀ {cs : List (List Nat)} {as : List Addr}, as.length = cs.length → (chKv cs as).length = cs.length
  | [], [], _ => rfl
  | _ :: _, [], h => nomatch h
  | [], _ :: _, h => nomatch h
  | c :: cs, a :: as, h => by
    show (chKv cs as).length + 1 = _
    rw [chKv_len (Nat.succ.inj h)] <;> rfl
theorem chKv_keys : ∀ {cs : List (List Nat)} {as : List Addr}, as.length = cs.length → (chKv cs as).map (fun kv => kV kv.1) = iv (cs.map lst)
  | [], [], _ => rfl
  | _ :: _, [], h => nomatch h
  | [], _ :: _, h => nomatch h
  | c :: cs, a :: as, h => by
    show V.int (lst c : Int) :: (chKv cs as).map (fun kv => kV kv.1) = _
    rw [chKv_keys (Nat.succ.inj h)] <;> rfl
theorem chKv_app : ∀ {cs : List (List Nat)} {as : List Addr} (c : List Nat) (a : Addr), as.length = cs.length → chKv (cs ++ [c]) (as ++ [a]) = chKv cs as ++ [(Sum.inl (lst c : Int), .ref a)]
  | [], [], _, _, _ => rfl
  | _ :: _, [], _, _, h => nomatch h
  | [], _ :: _, _, _, h => nomatch h
  | c :: cs, a :: as, c', a', h => by
    show _ :: chKv (cs ++ [c']) (as ++ [a']) = _
    rw [chKv_app c' a' (Nat.succ.inj h)] <;> rfl
theorem key_int {a b : Nat} : ((Sum.inl (a : Int) : Key) = Sum.inl (b : Int)) ↔ a = b := ⟨fun h => by injection h with h; omega, fun h => by rw [h]⟩
theorem any_ch (k : Nat) : ∀ {cs : List (List Nat)} {as : List Addr}, as.length = cs.length → ((chKv cs as).any fun kv => decide (kv.1 = (Sum.inl (k : Int) : Key))) = (cs.map lst).contains k
  | [], [], _ => rfl
  | _ :: _, [], h => nomatch h
  | [], _ :: _, h => nomatch h
  | c :: cs, a :: as, h => by
    show ((Sum.inl (lst c : Int), V.ref a) :: chKv cs as).any _ = (lst c :: cs.map lst).contains k
    rw [List.any_cons, any_ch k (Nat.succ.inj h), List.contains_cons]
    congr 1
    show decide _ = _
    rw [Bool.eq_iff_iff, decide_eq_true_eq, beq_iff_eq, key_int]
    exact eq_comm
theorem some_ch (k : Nat) {cs : List (List Nat)} {as : List Addr} (h : as.length = cs.length) : (valV (chKv cs as) (Sum.inl (k : Int) : Key)).isSome = (cs.map lst).contains k := by
  rw [← valV_any, any_ch k h]
theorem val_ch : ∀ {cs : List (List Nat)} {as : List Addr} {i : Nat} {c : List Nat} {a : Addr}, (cs.map lst).Nodup → cs[i]? = some c → as[i]? = some a → valV (chKv cs as) (Sum.inl (lst c : Int) : Key) = some (.ref a)
  | [], _, _, _, _, _, h, _ => nomatch h
  | _ :: _, [], _, _, _, _, _, h => nomatch h
  | c :: cs, a :: as, 0, _, _, _, rfl, rfl => valV_pos rfl
  | c :: cs, a :: as, i + 1, d, b, hn, h1, h2 => by
    rw [List.map_cons, List.nodup_cons] at hn
    have h1 : cs[i]? = some d := h1
    show valV ((Sum.inl (lst c : Int), V.ref a) :: chKv cs as) _ = _
    rw [valV_neg (fun z => hn.1 (by rw [show lst c = lst d from key_int.mp z]; exact List.mem_map.mpr ⟨d, List.mem_of_getElem? h1, rfl⟩))]
    exact val_ch hn.2 h1 h2
theorem put_ch {cs : List (List Nat)} {as : List Addr} (h : as.length = cs.length) (c : List Nat) (a : Addr) (hn : (cs.map lst).contains (lst c) = false) : putK (chKv cs as) (Sum.inl (lst c : Int)) (.ref a) = chKv (cs ++ [c]) (as ++ [a]) := by
  unfold putK
  rw [any_ch _ h, hn, chKv_app c a h]
  rfl
/-- chains lie at these places -/
abbrev ChsAt (H : Hp) (as : List Addr) (cs : List (List Nat)) : Prop := AtAll (fun a (c : List Nat) => H a = some (.lst (iv c))) as cs
theorem ChsAt.same {H H' : Hp} (s : Same H H') {as : List Addr} {cs : List (List Nat)} (h : ChsAt H as cs) : ChsAt H' as cs := h.mono fun _ _ e => s _ _ e
def ChainsAt (H : Hp) (d : Addr) (cs : List (List Nat)) : Prop := ∃ as, H d = some (.dK (chKv cs as)) ∧ ChsAt H as cs
abbrev N_chains_by : List Str := ["table", "entries", "away", "chains", "entry", "latest", "following", "last", "number"]
abbrev P_chains_by : List Str := ["table", "entries", "away"]
theorem sc_chains_by : FnScope N_chains_by P_chains_by (defScope s_chains_by) := ⟨rfl, rfl, rfl, by decide +kernel, rfl, by decide +kernel, by decide +kernel⟩
def sp_chains_by (K : PySem.W.Frag) : Sp := fun vs H Q _ => ∃ (ta ea aw : Addr) (t : Vakepb.Next) (es gone : List Nat) (n : Nat), vs = [.ref ta, .ref ea, .ref aw] ∧ TabAt H ta t ∧ H ea = some (.lst (iv es)) ∧ AwayAt H aw gone ∧ es.Nodup ∧ (∀ k ∈ es, k < n) ∧ RowsLt n t ∧ t.length = n ∧ n ≤ 10 ∧
  ∀ H' d, Same H H' → H d = none → ChainsAt H' d (found n t es gone) → Q (.ref d) H'
theorem ok_chains_by (T : Tx K mg) : Df P w K mg base CX0 (1) (He.ga K "chains_by") P_chains_by (sp_chains_by K) := by
  refine df_mk (F_chains_by T) sc_chains_by (fun _ _ _ _ _ _ us hl => match us, hl with | [_, _, _], _ => rfl) (fun vs H Q E h => by obtain ⟨_, _, _, _, _, _, _, rfl, _⟩ := h; rfl) (fun cdv A outer s H vs Q E hr h => ⟨_, (pss_cons (ps_set (i := 3) sc_chains_by.nd rfl (Or.inl rfl) pe_dnewK) (pss_cons (ps_for PassesOwn.never rfl (pi_list (pv 1)) (pg_name (i := 4) sc_chains_by.nd rfl (Or.inl rfl)) (pss_one (ps_if (pt_cmpR op_notIn_seq (pv 4) (pv 2) (by rfl)) (pss_one (ps_dput (hu_of hr) (pv 3) (pv 4) (pe_lst (pa_cons (pv 4) pa_nil)) rfl)) pss_nil))) (pss_cons (ps_set (i := 5) sc_chains_by.nd rfl (Or.inl rfl) (pe_callTy (call_list_dK rfl) (by rfl) (b_list T) (by decide +kernel) (pa_cons (pv 3) pa_nil))) (pss_cons (ps_while PassesOwn.never (pt_truth (pv 5) (by intro _; rfl)) (pss_cons (ps_set (i := 6) sc_chains_by.nd rfl (Or.inl rfl) (pe_lst pa_nil)) (pss_cons (ps_for PassesOwn.never rfl (pi_list (pv 5)) (pg_name (i := 7) sc_chains_by.nd rfl (Or.inl rfl)) (pss_one (ps_for PassesOwn.never rfl (pi_list (pe_ix ix_list (pv 0) (pv 7) (fun _ _ => rfl))) (pg_name (i := 8) sc_chains_by.nd rfl (Or.inl rfl)) (pss_one (ps_if (PW.pt (pw_and (pt_cmp (pc_dnotin (hu_of hr) (pv 8) (pv 3))) (pw_and1 (pt_cmpR op_notIn_seq (pv 8) (pv 2) (by rfl))))) (pss_cons (ps_dput (hu_of hr) (pv 3) (pv 8) (pe_op op_cat (pe_dget (hu_of hr) (pv 3) (pv 7) (fun _ _ => rfl)) (pe_lst (pa_cons (pv 8) pa_nil))) rfl) (pss_one (ps_expr (pe_bm PySem.F.plainAttrs_list PySem.F.slot_list_append PySem.F.type_list_append mt_append (pv 6) (pa_cons (pv 8) pa_nil))))) pss_nil))))) (pss_one (ps_set (i := 5) sc_chains_by.nd rfl (Or.inl rfl) (pv 6)))))) (pss_one (ps_ret (pv 3))))))), ?_⟩)
  obtain ⟨ta, ea, aw, t, es, gone, n, rfl, ⟨rs, hta, hrs⟩, hea, haw, hes, hlt, hrl, htn, hn10, q⟩ := h
  refine fun d hd => ?_
  have hd0 : H d = none := hd
  refine ⟨_, rfl, ea, rfl, ⟨_, SqL.of (same_new hd _ _ hea)⟩, ?_⟩
  refine for_it walk_list (fun i σ H' => ∃ (x4 : Option V) (as : List Addr), σ = [some (.ref ta), some (.ref ea), some (.ref aw), some (.ref d), x4, none, none, none, none] ∧ Same H H' ∧ H' d = some (.dK (chKv ((ents (es.take i) gone).map fun e => [e]) as)) ∧ ChsAt H' as ((ents (es.take i) gone).map fun e => [e]))
    ⟨none, [], rfl, same_new hd, upd_same, .nil⟩ (fun i σ H' _ ⟨_, _, _, f, _⟩ => SqL.of (f _ _ hea)) ?_ ?_
  · rintro i x σ H1 H2 hi ⟨x4, as, rfl, f1, h1, h2⟩ ⟨rfl, hx⟩
    rw [List.getElem?_map] at hx
    obtain ⟨e, he, rfl⟩ := Option.map_eq_some_iff.mp hx
    refine ⟨_, rfl, _, rfl, aw, _, rfl, (haw.same f1).sq, rfl, flat_ints _, _, rfl, ?_⟩
    show if (!inV (.int e) (iv gone)) = true then _ else _
    rw [ints_in]
    have hents : ents (es.take (i + 1)) gone = ents (es.take i) gone ++ if gone.contains e = true then [] else [e] := by
      unfold ents
      rw [List.take_add_one, he, List.filter_append, Option.toList, List.filter_cons, List.filter_nil]
      cases gone.contains e <;> rfl
    refine iteNB (fun hc => ?_) (fun hc => ?_)
    · rw [if_neg (by rw [hc]; decide)] at hents
      refine ⟨_, rfl, by show 1 ≤ sizeLine; decide, fun l hl => ?_⟩
      have s3 := same_new (o := .lst [V.int e]) hl
      have hl2 := h2.len
      have e3 : upd H2 l (.lst [V.int e]) l = some (.lst (iv [e])) := upd_same
      generalize upd H2 l (.lst [V.int e]) = H3 at s3 e3 ⊢
      have e3d := s3 _ _ h1
      have hfresh : (((ents (es.take i) gone).map fun e => [e]).map lst).contains (lst [e]) = false := by
        rw [ents_lst, ← Bool.not_eq_true, List.contains_iff_mem]
        intro z
        obtain ⟨z1, _⟩ := mem_ents.mp z
        obtain ⟨j, hj, hje⟩ := List.mem_iff_getElem.mp z1
        rw [List.length_take] at hj
        rw [List.getElem_take] at hje
        obtain ⟨hil, hie⟩ := List.getElem?_eq_some_iff.mp he
        have := (List.getElem_inj hes).mp (hje.trans hie.symm)
        omega
      have hlen : (chKv ((ents (es.take i) gone).map fun e => [e]) as).length < sizeLine := by
        rw [chKv_len hl2, List.length_map]
        refine Nat.lt_of_le_of_lt (List.length_filter_le _ _) (Nat.lt_of_le_of_lt (List.length_take_le' _ _) (Nat.lt_of_le_of_lt (le_of_lt hes hlt) (Nat.lt_of_le_of_lt hn10 (by decide))))
      refine ⟨_, rfl, _, rfl, d, _, rfl, DPut.k (k := Sum.inl (e : Int)) e3d hlen, ?_⟩
      rw [show putK (chKv ((ents (es.take i) gone).map fun e => [e]) as) (Sum.inl (e : Int)) (V.ref l) = _ from put_ch hl2 [e] l hfresh]
      have hld : l ≠ d := ne_kind e3 e3d (by intro z; cases z)
      refine ⟨_, as ++ [l], rfl, ?_, by rw [upd_same, hents, List.map_append] <;> rfl, ?_⟩
      · exact same_upd (f1.trans s3) hd0
      · rw [hents, List.map_append]
        have old : ChsAt (upd H3 d (.dK (chKv (((ents (es.take i) gone).map fun e => [e]) ++ [[e]]) (as ++ [l])))) as ((ents (es.take i) gone).map fun e => [e]) := h2.mono fun a c z => by
          rw [upd_ne (ne_kind (s3 _ _ z) e3d (by intro y; cases y))]
          exact s3 _ _ z
        exact old.push (by rw [upd_ne hld]; exact e3)
    · rw [if_pos hc, List.append_nil] at hents
      rw [← hents] at h1 h2
      exact ⟨_, as, rfl, f1, h1, h2⟩
  rintro σ H1 ⟨x4, as0, rfl, f1, h1, h2⟩
  rw [show (iv es).length = es.length from List.length_map _, List.take_length] at h1 h2
  have hl2 := h2.len
  refine ⟨_, rfl, d, _, rfl, h1, fun L hL => ?_⟩
  have hLd : L ≠ d := fun z => by rw [z, h1] at hL; cases hL
  have hLH : H L = none := f1.free hL
  rw [chKv_keys hl2, ents_lst]
  have s3 := same_new (o := .lst (iv (ents es gone))) hL
  have e3 : upd H1 L (.lst (iv (ents es gone))) L = some (.lst (iv (ents es gone))) := upd_same
  generalize upd H1 L (.lst (iv (ents es gone))) = H3 at s3 e3 ⊢
  have start : Srch n gone (ents es gone) ((ents es gone).map fun e => [e]) := start_srch hes hlt
  refine ⟨fun m σ H' => ∃ (x4 x6 x7 x8 : Option V) (L : Addr) (pre cs : List (List Nat)) (f : Nat) (as : List Addr), m = 2 * (n - ((pre ++ cs).map lst).length) + (if cs = [] then 0 else 1) ∧
      σ = [some (.ref ta), some (.ref ea), some (.ref aw), some (.ref d), x4, some (.ref L), x6, x7, x8] ∧ Same H H' ∧ L ≠ d ∧ H' L = some (.lst (iv (cs.map lst))) ∧ H' d = some (.dK (chKv (pre ++ cs) as)) ∧ ChsAt H' as (pre ++ cs) ∧
      Srch n gone ((pre ++ cs).map lst) cs ∧ Enough n f ((pre ++ cs).map lst) cs ∧ found n t es gone = pre ++ chAll t gone f ((pre ++ cs).map lst) cs,
    ⟨_, x4, none, none, none, L, [], (ents es gone).map (fun e => [e]), n + 1, as0, rfl, rfl, f1.trans s3, hLd, by rw [ents_lst]; exact e3, s3 _ _ h1, h2.same s3, by rw [List.nil_append, ents_lst]; exact start, start_enough, by rw [List.nil_append, List.nil_append, ents_lst] <;> rfl⟩, ?_⟩
  clear start e3 s3 hLH hLd hL hl2 h2 h1 f1
  rintro m σ H4 ⟨x4, x6, x7, x8, L, pre, cs, f, as, rfl, rfl, f4, hLd, hL, hch, hat, hS, hE, hfd⟩
  refine ⟨_, rfl, _, .inl ⟨_, SqL.of hL, rfl⟩, ?_⟩
  by_cases hcs : cs = []
  · subst hcs
    refine iteF ?_
    refine ⟨_, rfl, q H4 d f4 hd0 ⟨as, ?_, ?_⟩⟩
    · rw [hfd, chAll_nil]
      exact hch
    · rw [hfd, chAll_nil]
      exact hat
  · have hnb : (!(iv (cs.map lst)).isEmpty) = true := by
      cases cs with
      | nil => exact absurd rfl hcs
      | cons _ _ => rfl
    rw [hnb]
    refine iteT ?_
    have hmid := grow_mid hrl hS
    have hEn := hE hcs
    obtain ⟨g, rfl⟩ : ∃ g, f = g + 1 := ⟨f - 1, by have := hS.le; omega⟩
    refine ⟨fun σ' H' => ∃ (x4 x6 x7 x8 : Option V) (L : Addr) (as : List Addr), σ' = [some (.ref ta), some (.ref ea), some (.ref aw), some (.ref d), x4, some (.ref L), x6, x7, x8] ∧ Same H H' ∧ L ≠ d ∧ H' L = some (.lst (iv ((growA t gone ((pre ++ cs).map lst) cs).2.map lst))) ∧
        H' d = some (.dK (chKv (pre ++ cs ++ (growA t gone ((pre ++ cs).map lst) cs).2) as)) ∧ ChsAt H' as (pre ++ cs ++ (growA t gone ((pre ++ cs).map lst) cs).2), ?_, ?_⟩
    · rintro σ' H' ⟨x4, x6, x7, x8, L, as, rfl, k1, k2, k3, k4, k5⟩
      have hseen : (pre ++ cs ++ (growA t gone ((pre ++ cs).map lst) cs).2).map lst = (growA t gone ((pre ++ cs).map lst) cs).1 := by
        rw [List.map_append, hmid.1.e]
      refine ⟨_, ?_, x4, x6, x7, x8, L, pre ++ cs, _, g, as, rfl, rfl, k1, k2, k3, k4, k5, ?_, ?_, ?_⟩
      · have hle := (hS.next hrl).le
        have hgl := grow_len hrl hS
        rw [hseen, if_neg hcs]
        split
        · rename_i hz
          rw [hz] at hgl
          have hgl : (growA t gone ((pre ++ cs).map lst) cs).1.length = ((pre ++ cs).map lst).length := hgl
          omega
        · rename_i hz
          have : 1 ≤ (growA t gone ((pre ++ cs).map lst) cs).2.length := by
            cases q : (growA t gone ((pre ++ cs).map lst) cs).2 with
            | nil => exact absurd q hz
            | cons _ _ => exact Nat.le_add_left _ _
          omega
      · rw [hseen]
        exact hS.next hrl
      · rw [hseen]
        exact Enough.next hrl hS hEn
      · rw [hfd, chAll_cons hcs, hseen, List.append_assoc]
    · refine ⟨by decide, fun F hF => ?_⟩
      have hFd : F ≠ d := fun z => by rw [z, hch] at hF; cases hF
      have hFL : F ≠ L := fun z => by rw [z, hL] at hF; cases hF
      have hFH : H F = none := f4.free hF
      have s5 := same_new (o := .lst []) hF
      have e5 : upd H4 F (.lst []) F = some (.lst []) := upd_same
      have hatF : AtAll (fun a (c : List Nat) => a ≠ F ∧ upd H4 F (.lst []) a = some (.lst (iv c))) as (pre ++ cs) := hat.mono fun a c z => ⟨fun y => (by rw [y, hF] at z; cases z), s5 _ _ z⟩
      have hL5 := s5 _ _ hL
      have hd5 := s5 _ _ hch
      have f5 := f4.trans s5
      clear hat s5
      generalize upd H4 F (.lst []) = H5 at e5 hatF hL5 hd5 f5 ⊢
      refine ⟨_, rfl, L, rfl, ⟨_, SqL.of hL5⟩, ?_⟩
      refine for_it walk_list (fun i σ H' => ∃ (x7 x8 : Option V) (y : List Nat × List (List Nat)) (as : List Addr), σ = [some (.ref ta), some (.ref ea), some (.ref aw), some (.ref d), x4, some (.ref L), some (.ref F), x7, x8] ∧ Same H H' ∧ H' L = some (.lst (iv (cs.map lst))) ∧
          y = (cs.take i).foldl (putC t gone) ((pre ++ cs).map lst, []) ∧ H' F = some (.lst (iv (y.2.map lst))) ∧ H' d = some (.dK (chKv (pre ++ cs ++ y.2) as)) ∧ AtAll (fun a (c : List Nat) => a ≠ F ∧ H' a = some (.lst (iv c))) as (pre ++ cs ++ y.2))
        ⟨x7, x8, ((pre ++ cs).map lst, []), as, rfl, f5, hL5, rfl, e5, by rw [List.append_nil]; exact hd5, by rw [List.append_nil]; exact hatF⟩ (fun i σ H' _ ⟨_, _, _, _, _, _, k, _⟩ => SqL.of k) ?_ ?_
      · rintro i x σ H6 H7 hi ⟨y7, y8, y, bs, rfl, k1, k2, k3, k4, k5, k6⟩ ⟨rfl, hx⟩
        have hx : (cs.map fun c => V.int (lst c : Int))[i]? = some x := by
          rw [← hx]
          unfold iv
          rw [List.map_map] <;> rfl
        rw [List.getElem?_map] at hx
        obtain ⟨c, hc, rfl⟩ := Option.map_eq_some_iff.mp hx
        have hcm := List.mem_of_getElem? hc
        have hcn := hS.ch c hcm
        have hlc : lst c < n := (hS.lt _ (hcn.2.2 _ (last_mem hcn.1))).1
        have hrow : t[lst c]? = some (t.getD (lst c) []) := by
          rw [List.getD_eq_getElem?_getD, List.getElem?_eq_getElem (by omega)] <;> rfl
        obtain ⟨ra, hra, hrr⟩ := hrs.at_ hrow
        have hmy : Mid n gone ((pre ++ cs).map lst) y ∧ ∀ j ∈ (pre ++ cs).map lst, j ∈ y.1 := by
          rw [k3]
          exact mid_all hrl (cs.take i) (y := ((pre ++ cs).map lst, [])) ⟨⟨hS.nd, hS.lt, fun c hc => nomatch hc⟩, by rw [List.map_nil, List.append_nil]⟩ fun d hd => ⟨(hS.ch d (List.mem_of_mem_take hd)).2.1, (hS.ch d (List.mem_of_mem_take hd)).2.2⟩
        have hcy : c.Nodup ∧ ∀ k ∈ c, k ∈ y.1 := ⟨hcn.2.1, fun k hk => hmy.2 _ (hcn.2.2 k hk)⟩
        have hix : atI (rs.map V.ref) (lst c : Int) = some (.ref ra) := atI_nat (by rw [List.getElem?_map, hra] <;> rfl)
        refine ⟨_, rfl, _, rfl, ta, _, _, _, rfl, rfl, SqL.of (k1 _ _ hta), hix, ra, rfl, ⟨_, SqL.of (k1 _ _ hrr)⟩, ?_⟩
        refine for_it walk_list (fun j σ H' => ∃ (x8 : Option V) (z : List Nat × List (List Nat)) (as : List Addr), σ = [some (.ref ta), some (.ref ea), some (.ref aw), some (.ref d), x4, some (.ref L), some (.ref F), some (.int (lst c)), x8] ∧ Same H H' ∧ H' L = some (.lst (iv (cs.map lst))) ∧
            z = ((t.getD (lst c) []).take j).foldl (put1 gone c) y ∧ H' F = some (.lst (iv (z.2.map lst))) ∧ H' d = some (.dK (chKv (pre ++ cs ++ z.2) as)) ∧ AtAll (fun a (c : List Nat) => a ≠ F ∧ H' a = some (.lst (iv c))) as (pre ++ cs ++ z.2))
          ⟨y8, y, bs, rfl, k1, k2, rfl, k4, k5, k6⟩ (fun j σ H' _ ⟨_, _, _, _, k, _⟩ => SqL.of (k _ _ hrr)) ?_ ?_
        · rintro j x σ H8 H9 hj ⟨y8, z, bs, rfl, g1, g2, g3, g4, g5, g6⟩ ⟨rfl, hx⟩
          rw [List.getElem?_map] at hx
          obtain ⟨k, hk, rfl⟩ := Option.map_eq_some_iff.mp hx
          have hkn : k < n := hrl.at _ k (List.mem_of_getElem? hk)
          have hmz : Mid n gone ((pre ++ cs).map lst) z ∧ ∀ j ∈ y.1, j ∈ z.1 := by
            rw [g3]
            exact mid_row _ hmy.1 hcy fun k hk => hrl.at _ k (List.mem_of_mem_take hk)
          have hz1 : z.1 = (pre ++ cs ++ z.2).map lst := by rw [hmz.1.e, ← List.map_append]
          have hbl := g6.len
          have hnext : ((t.getD (lst c) []).take (j + 1)).foldl (put1 gone c) y = put1 gone c z k := by
            rw [List.take_add_one, hk, List.foldl_append, ← g3] <;> rfl
          have hput : put1 gone c z k = if z.1.contains k = true ∨ gone.contains k = true then z else (z.1 ++ [k], z.2 ++ [c ++ [k]]) := rfl
          refine ⟨_, rfl, _, rfl, d, _, rfl, DGet.k (k := Sum.inl (k : Int)) g5, _, rfl, ?_⟩
          rw [some_ch k hbl, ← hz1]
          have stay : (z.1.contains k = true ∨ gone.contains k = true) → put1 gone c z k = z := fun h => by rw [hput, if_pos h]
          refine iteNB (fun hc1 => ?_) (fun hc1 => ?_)
          · refine ⟨_, rfl, _, rfl, aw, _, rfl, (haw.same g1).sq, rfl, flat_ints _, _, rfl, ?_⟩
            show if (!inV (.int k) (iv gone)) = true then _ else _
            rw [ints_in]
            refine iteNB (fun hc2 => ?_) (fun hc2 => ?_)
            · rw [if_neg (by rw [hc1, hc2]; exact fun h => h.elim (fun h => by cases h) fun h => by cases h)] at hput
              have hcz : c ∈ pre ++ cs ++ z.2 := List.mem_append_left _ (List.mem_append_right _ hcm)
              obtain ⟨ic, hic⟩ := List.getElem?_of_mem hcz
              obtain ⟨ac, hac, hacF, hacc⟩ := g6.at_ hic
              have hval := val_ch (as := bs) (by rw [← hz1]; exact hmz.1.s.nd) hic hac
              have hDG : DGet H9 d (.int (lst c)) (some (.ref ac)) := by
                rw [← hval]
                exact DGet.k (k := Sum.inl (lst c : Int)) g5
              refine ⟨_, rfl, _, rfl, d, _, rfl, hDG, _, rfl, by show 1 ≤ sizeLine; decide, fun l hl => ?_⟩
              have s10 := same_new (o := .lst [V.int k]) hl
              have e10 : upd H9 l (.lst [V.int k]) l = some (.lst [V.int k]) := upd_same
              generalize upd H9 l (.lst [V.int k]) = H10 at s10 e10 ⊢
              have hclen : c.length ≤ n := hS.chle hcm
              refine ⟨ac, l, iv c, [V.int k], rfl, rfl, s10 _ _ hacc, e10, ?_, fun pp hpp => ?_⟩
              · show (iv c).length + 1 ≤ sizeLine
                rw [show (iv c).length = c.length from List.length_map _]
                exact Nat.le_trans (Nat.succ_le_succ (Nat.le_trans hclen hn10)) (by decide)
              have s11 := same_new (o := .lst (iv c ++ [V.int k])) hpp
              have e11 : upd H10 pp (.lst (iv c ++ [V.int k])) pp = some (.lst (iv (c ++ [k]))) := by
                rw [upd_same]
                unfold iv
                rw [List.map_append] <;> rfl
              generalize upd H10 pp (.lst (iv c ++ [V.int k])) = H11 at s11 e11 ⊢
              have s911 := s10.trans s11
              have hpd : pp ≠ d := ne_kind e11 (s911 _ _ g5) (by intro z; cases z)
              have hpF : pp ≠ F := fun y => by rw [y, s10 _ _ g4] at hpp; cases hpp
              have hkey : lst (c ++ [k]) = k := last_snoc c k
              have hnot : ((pre ++ cs ++ z.2).map lst).contains (lst (c ++ [k])) = false := by
                rw [hkey, ← hz1]
                exact hc1
              have hlen : (chKv (pre ++ cs ++ z.2) bs).length < sizeLine := by
                rw [chKv_len hbl]
                have := hmz.1.s.le
                rw [hz1, List.length_map] at this
                exact Nat.lt_of_le_of_lt this (Nat.lt_of_le_of_lt hn10 (by decide))
              refine ⟨_, rfl, _, rfl, d, _, rfl, DPut.k (k := Sum.inl (k : Int)) (s911 _ _ g5) hlen, ?_⟩
              have hpk : putK (chKv (pre ++ cs ++ z.2) bs) (Sum.inl (k : Int)) (V.ref pp) = chKv (pre ++ cs ++ z.2 ++ [c ++ [k]]) (bs ++ [pp]) := by
                have := put_ch hbl (c ++ [k]) pp hnot
                rw [hkey] at this
                exact this
              rw [hpk]
              have f12 : Same H (upd H11 d (.dK (chKv (pre ++ cs ++ z.2 ++ [c ++ [k]]) (bs ++ [pp])))) := same_upd (g1.trans s911) hd0
              have eF : upd H11 d (.dK (chKv (pre ++ cs ++ z.2 ++ [c ++ [k]]) (bs ++ [pp]))) F = some (.lst (iv (z.2.map lst))) := by
                rw [upd_ne hFd]
                exact s911 _ _ g4
              refine ⟨_, rfl, .inl ⟨rfl, _, SqL.of eF⟩, _, rfl, F, _, _, rfl, rfl, eF, ?_, ?_⟩
              · rw [show (iv (z.2.map lst)).length = (z.2.map lst).length from List.length_map _]
                have := hmz.1.s.le
                rw [hmz.1.e, List.length_append] at this
                exact Nat.lt_of_le_of_lt (show (z.2.map lst).length ≤ n by omega) (Nat.lt_of_le_of_lt hn10 (by decide))
              · refine ⟨_, _, bs ++ [pp], rfl, same_upd f12 hFH, ?_, rfl, ?_, ?_, ?_⟩
                · rw [upd_ne (Ne.symm hFL), upd_ne hLd]
                  exact s911 _ _ g2
                · rw [upd_same, hnext, hput]
                  show some (HO.lst (iv (z.2.map lst) ++ [V.int k])) = some (.lst (iv ((z.2 ++ [c ++ [k]]).map lst)))
                  unfold iv
                  rw [List.map_append, List.map_append, List.map_cons, hkey] <;> rfl
                · rw [upd_ne (Ne.symm hFd), upd_same, hnext, hput]
                  show some (HO.dK (chKv (pre ++ cs ++ z.2 ++ [c ++ [k]]) (bs ++ [pp]))) = some (.dK (chKv (pre ++ cs ++ (z.2 ++ [c ++ [k]])) (bs ++ [pp])))
                  rw [List.append_assoc (pre ++ cs)]
                · rw [hnext, hput]
                  show AtAll _ (bs ++ [pp]) (pre ++ cs ++ (z.2 ++ [c ++ [k]]))
                  rw [← List.append_assoc (pre ++ cs)]
                  have old : AtAll (fun a (e : List Nat) => a ≠ F ∧ upd (upd H11 d (.dK (chKv (pre ++ cs ++ z.2 ++ [c ++ [k]]) (bs ++ [pp])))) F (.lst (iv (z.2.map lst) ++ [V.int k])) a = some (.lst (iv e))) bs (pre ++ cs ++ z.2) := g6.mono fun a e w => ⟨w.1, by
                    rw [upd_ne w.1, upd_ne (ne_kind (s911 _ _ w.2) (s911 _ _ g5) (by intro z; cases z))]
                    exact s911 _ _ w.2⟩
                  exact old.push ⟨hpF, by rw [upd_ne hpF, upd_ne hpd]; exact e11⟩
            · rw [stay (.inr hc2)] at hnext
              exact ⟨_, z, bs, rfl, g1, g2, hnext.symm, g4, g5, g6⟩
          · rw [stay (.inl hc1)] at hnext
            exact ⟨_, z, bs, rfl, g1, g2, hnext.symm, g4, g5, g6⟩
        · rintro σ H8 ⟨y8, z, bs, rfl, g1, g2, g3, g4, g5, g6⟩
          refine ⟨_, _, z, bs, rfl, g1, g2, ?_, g4, g5, g6⟩
          rw [show (iv (t.getD (lst c) [])).length = (t.getD (lst c) []).length from List.length_map _, List.take_length] at g3
          rw [List.take_add_one, hc, Option.toList, List.foldl_append, ← k3, g3] <;> rfl
      · rintro σ H6 ⟨y7, y8, y, bs, rfl, k1, k2, k3, k4, k5, k6⟩
        rw [show (iv (cs.map lst)).length = cs.length by rw [show (iv (cs.map lst)).length = (cs.map lst).length from List.length_map _, List.length_map], List.take_length] at k3
        have ey : y = growA t gone ((pre ++ cs).map lst) cs := k3
        subst ey
        exact ⟨_, rfl, _, _, _, _, F, bs, rfl, k1, hFd, k4, k5, k6.mono fun _ _ w => w.2⟩
end
end Vf

set_option Elab.async false
set_option linter.all false
set_option maxRecDepth 100000
set_option maxHeartbeats 4000000
/-! d.update(e) of two dicts. -/
namespace Vf
open PySem PySem.Spec PyProof.Rows L2
section
variable {X : Cx}
/-- both dicts have keys that are ints and texts; they are two -/
def rUpdate : V → List V → Hp → VK → Prop := fun x xs H Q => ∃ (d e : Addr) (kvs more : List (Key × V)), x = .ref d ∧ xs = [.ref e] ∧ H d = some (.dK kvs) ∧ H e = some (.dK more) ∧ d ≠ e ∧ kvs.length + more.length ≤ sizeLine ∧ Q .non (upd H d (.dK (mergeK kvs more)))
theorem mt_update : MtR X "dict.update" rUpdate := by
  intro pins s σ H x xs v us Q I rx rxs h
  obtain ⟨d, e, kvs, more, rfl, rfl, hd, he, hne, hz, q⟩ := h
  cases rx
  obtain ⟨u, rfl, ru⟩ := rxs.one
  cases ru
  obtain ⟨z1, lo1, vs1, r1, D1⟩ := dk_of I.hok hd
  obtain ⟨z2, lo2, vs2, r2, D2⟩ := dk_of I.hok he
  have l1 : kvs.length = vs1.length := Paired.length r1
  have l2 : more.length = vs2.length := Paired.length r2
  refine call_meetsIn PySem.F.slot_dict_update D1.typeIs PySem.F.entry_dict_update (PySem.F.args_dict_update_2 _ _) (meets_dict_update (mixKind X.prog X.w) d e hne lo2) ⟨vs1, vs2, D1, D2, by rw [← l1, ← l2]; exact hz, fun h' hm _ hs => ?_⟩
  have hE : ∃ q, h'.get? d = some q := let ⟨q, _, _, hq, _⟩ := hm; ⟨q, hq⟩
  exact ⟨.non, _, d_write I (by rw [hd]; exact True.intro) hs hE (dk_new (Nat.le_trans (length_mergeK more kvs) hz) lo1 (r2.merge r1) hm), rfl, q⟩
end
end Vf

set_option Elab.async false
set_option linter.all false
set_option maxRecDepth 100000
set_option maxHeartbeats 8000000
/-! set(xs) of a list of ints. -/
namespace Vf
open PySem PySem.Spec PyProof.Rows L2
section
variable {P : Program} {w : World} {A : Around} {E : Value → Shared → Prop} {s : Shared}
/-- a set just made -/
abbrev set0 (w : World) : Obj := { cls := .type "set", dict := none, data := .set #[] 0 (.fresh 0 0 (!w.params.followText "set-order")) }
/-- how it fills from a list: what is known when its __init__ has ended -/
def Filled (w : World) (s : Shared) (ns : List Int) : Value → Shared → Prop := fun r s2 => r = .none ∧ ∃ (hp : Heap) (tk c : Nat), s2 = { s with heap := hp, toks := tk } ∧ SetR w hp s.heap.objs.size (fun j => decide (j ∈ ns)) c ∧ c ≤ ns.length ∧ ∀ b o, s.heap.get? b = some o → hp.get? b = some o
theorem fills {l : Addr} {xs : Array Value} {ns : List Int} (hh : A.handled = none) (hl : s.heap.IsList l xs) (hi : IntsAre xs.toList ns) (hb : ns.length + 1 < scanBound) :
    codeAny (model P w) A (.call (.builtin "set.__init__") ⟨[.ref s.heap.objs.size, .ref l], []⟩) (wants (Filled w s ns) E) { s with heap := s.heap.push (set0 w) } := by
  have hN : xs.size = ns.length := by
    have := IntsAre.length hi
    rwa [Array.length_toList] at this
  have hS : (s.heap.push (set0 w)).get? s.heap.objs.size = some (set0 w) := Heap.get?_push_size _ rfl
  have hT : Shared.TypeIs { s with heap := s.heap.push (set0 w) } (.ref s.heap.objs.size) "set" := ⟨_, hS, rfl⟩
  refine codeAny_call_builtin F.called_set.init.plain F.entry_set_init (check_set_init_1 hT ?_)
  obtain ⟨⟨oc, od, dt, osl⟩, hol, hcl, nl, hdl⟩ := hl
  simp only at hcl hdl
  subst hcl hdl
  have hol1 : (s.heap.push (set0 w)).get? l = some { cls := .type "list", dict := od, data := .seq xs nl, slots := osl } := Heap.get?_push_of_some _ hol
  have hL : (s.heap.push (set0 w)).IsList l xs := ⟨_, hol1, rfl, nl, rfl⟩
  have f1 := F.sub_list_set
  have f2 := F.sub_list_frozenset
  have f3 : (Value.type "list" == Value.type "dict") = false := by decide
  have hlt : l < s.heap.objs.size := Heap.lt_size hol
  have hsz : (s.heap.push (set0 w)).objs.size = s.heap.objs.size + 1 := Heap.size_push ..
  unfold Builtin.«set.__init__» noKeywords Builtin.Frozenset.updateFrom
  generalize hPI : pyIter = PI
  wp_walk
  subst hPI
  refine wpAny_pyIter_list hL (wpAny_bind (wpAny_runValue ?_))
  have h3 : A.in1.in1.handled = none := by simp [hh]
  have n1 : l ≠ (s.heap.push (set0 w)).objs.size := by
    rw [hsz]
    exact Nat.ne_of_lt (Nat.lt_succ_of_lt hlt)
  have n2 : s.heap.objs.size ∉ [(s.heap.push (set0 w)).objs.size, l] := by
    rw [hsz]
    simp only [List.mem_cons, List.not_mem_nil, or_false, not_or]
    exact ⟨Nat.ne_of_lt (Nat.lt_succ_self _), Nat.ne_of_gt hlt⟩
  have vals : ∀ (i : Nat) (v : Value), xs[i]? = some v → ∃ k t, ns[i]? = some k ∧ v = .int k t := fun i v hv => by
    have hin : i < ns.length := hN ▸ (Array.getElem?_eq_some_iff.mp hv).1
    obtain ⟨t, e⟩ := PyProof.Rows.IntsAre.int_at hi i v (by rw [Array.getElem?_toList]; exact hv)
    exact ⟨ns[i], t, List.getElem?_eq_getElem hin, by rw [e, List.getD_eq_getElem?_getD, List.getElem?_eq_getElem hin] <;> rfl⟩
  refine set_update_ints ((Walks.list h3 _ l n1 xs).toS) s.heap.objs.size n2 ns hN hb vals (xs.size - 0) 0 _ (by omega) (Nat.zero_le _) ?_ ?_ ?_
  · exact ⟨⟨_, Heap.get?_push_size _ rfl, rfl, rfl⟩, hL.push _⟩
  · exact ⟨0, Nat.le_refl 0, setR_new_at (Heap.get?_push_of_some _ hS)⟩
  intro s2 c2 hm hc2 hR
  obtain ⟨hp, g2, d2, t2, o2⟩ := s2
  have e1 : g2 = s.gens := hm.gens
  have e2 : d2 = s.drawn := hm.drawn
  have e3 : o2 = s.os := hm.os
  subst e1 e2 e3
  rw [hN] at hc2
  show wpAny _ _ _ _ _ _
  refine wpAny_pure (show wpAny _ _ (ret Value.none) _ _ _ from wpAny_pure ⟨rfl, hp, t2, c2, rfl, hR, hc2, fun b o e => ?_⟩)
  have b0 : b < s.heap.objs.size := Heap.lt_size e
  have b1 : b ≠ (s.heap.push (set0 w)).objs.size := by
    rw [hsz]
    exact Nat.ne_of_lt (Nat.lt_succ_of_lt b0)
  refine hm.heap b o ?_ (Heap.get?_push_of_some _ (Heap.get?_push_of_some _ e))
  simp only [List.mem_cons, List.not_mem_nil, or_false, not_or]
  exact ⟨Nat.ne_of_lt b0, b1⟩
theorem set_of_list {l : Addr} {xs : Array Value} {ns : List Int} {Q : Value → Shared → Prop} (hh : A.handled = none) (hl : s.heap.IsList l xs) (hi : IntsAre xs.toList ns) (hb : ns.length + 1 < scanBound)
    (h : ∀ (hp : Heap) (tk c : Nat), SetR w hp s.heap.objs.size (fun j => decide (j ∈ ns)) c → c ≤ ns.length → (∀ b o, s.heap.get? b = some o → hp.get? b = some o) → Q (.ref s.heap.objs.size) { s with heap := hp, toks := tk }) :
    wpAny (model P w) A (call (.type "set") [.ref l]) Q E s := by
  have ⟨c0, tl, hmro⟩ := F.called_set.mro
  have a1 := F.called_set.made
  have a2 := F.called_set.sub
  have a3 := F.called_set.notType
  have a4 := F.called_set.canCreate
  have a5 := F.typeCall_set_1 (.ref l)
  have a6 := F.called_set.init.lookup
  have a7 := F.called_set.init.bind (.ref s.heap.objs.size)
  refine wpAny_call (codeAny_of_tree (show wpAny _ _ (callAny (.type "set") _) _ _ _ from wpAny_pure ⟨Code.quiet_builtin _ (by decide +kernel), codeAny_builtin F.entry_type_call ?_⟩))
  rw [Around.under_plain (weight_type_call_type "set" [.ref l] []) rfl]
  repeat any_goals first | assumption | wp_step
  refine codeAny_mono (code_set_led1 (.ref l) (E := E) (Q₁ := fun u s2 => u = .ref s.heap.objs.size ∧ s2 = { s with heap := s.heap.push (set0 w) }) ⟨rfl, rfl⟩) fun r s1 hr => ?_
  cases r with
  | error e => exact hr
  | ok fl => cases fl with
    | ret u =>
      obtain ⟨rfl, rfl⟩ := hr
      have hT : Shared.TypeIs { s with heap := s.heap.push (set0 w) } (.ref s.heap.objs.size) "set" := ⟨_, Heap.get?_push_size _ rfl, rfl⟩
      repeat any_goals first | assumption | wp_step
      refine codeAny_mono (fills (E := E) (by simp [hh]) hl hi hb) fun r2 s2 hr2 => ?_
      cases r2 with
      | error e => exact hr2
      | ok f2 => cases f2 with
        | ret u2 =>
          obtain ⟨rfl, hp, tk, c2, rfl, hR, hc2, hk⟩ := hr2
          repeat any_goals first | assumption | wp_step
          exact h _ _ _ hR hc2 hk
        | _ => exact hr2.elim
    | _ => exact hr.elim
end
section
variable {X : Cx}
def rSetI (K : PySem.W.Frag) (w : World) : List V → Hp → VK → Prop := fun xs H Q => ∃ (l : Addr) (ns : List Int), xs = [.ref l] ∧ SqL K H l (ns.map V.int) ∧ ns.length ≤ 1000 ∧ ∀ a c, H a = none → c ≤ ns.length → Q (.ref a) (upd H a (SetO w a (fun k => decide (k ∈ ns)) c))
theorem cr_setI (hc : X.calm = true) : CallR X (.type "set") (rSetI X.K X.w) := by
  intro pins s σ H xs us Q I r h
  obtain ⟨l, ns, rfl, hl, hz, q⟩ := h
  rw [Vals.ref1 r]
  obtain ⟨its, rv, pl, _⟩ := I.list hl
  refine set_of_list (I.ok.hd hc) pl.isList (by simpa using ints_of_vals rv) (by unfold scanBound; omega) fun hp tk c R hcn k => ?_
  exact ⟨.ref s.heap.objs.size, upd H s.heap.objs.size (SetO X.w s.heap.objs.size (fun j => decide (j ∈ ns)) c), I.laid (t' := tk) k (Nat.le_refl _) (setO_new R), rfl, q _ c (I.hok.fresh (Nat.le_refl _)) hcn⟩
end
end Vf

set_option Elab.async false
set_option linter.all false
set_option maxRecDepth 100000
set_option maxHeartbeats 4000000
/-! What is come to by a mode, kept once it is found. -/
namespace Vf
open PySem PySem.Spec PyProof.Rows L2
open VakepBase (Bytes)
open Vakepa (Prog total valuesOf sizeOf_)
open Vakepb (tables nextBy nextAny reachedBy lost enters comesAll)
section
variable {P : Program} {w : World} {K : PySem.W.Frag} {mg : Str → Option Value} {base : Heap}
/-- keys of what is known -/
def allKeys (n : Nat) : List (List Nat) := [] :: ((List.range n).map (fun a => [a]) ++ (List.range n).flatMap fun a => (List.range n).map fun b => [a, b])
structure Rch where
  a : Addr
  dx : Addr
  pa : Addr
  dk : Addr
  tv : V
  p : Prog
  m : Nat
abbrev Rch.M (r : Rch) : List Addr := [r.dk]
abbrev knKv (kn : List (List Nat × Addr)) : List (List Key × V) := kn.map fun e => (e.1.map fun (k : Nat) => (Sum.inl (k : Int) : Key), V.ref e.2)
/-- what stands of it; L: things that a caller still makes -/
structure ReachS (K : PySem.W.Frag) (L : List Addr) (H : Hp) (r : Rch) : Prop where
  obj : H r.a = some (.ins (He.ga K "Reach") r.dx [("program", .ref r.pa), ("tables", r.tv), ("known", .ref r.dk)])
  wf : Wfp r.p
  m3 : r.m < 3
  live : ∀ x ∈ L, ∃ o, H x = some o
  na : r.a ∉ L
  nk : r.dk ∉ L
  prog : ProgAt K (Off (L ++ r.M) H) r.pa r.p
  tabs : (r.m = 2 ∧ r.tv = .non) ∨ (r.m < 2 ∧ ∃ T, r.tv = .ref T ∧ TabsAt (Off (L ++ r.M) H) T (tables r.p r.m))
  known : ∃ kn : List (List Nat × Addr), H r.dk = some (.dT (knKv kn)) ∧ (kn.map (·.1)).Nodup ∧ (∀ e ∈ kn, e.1 ∈ allKeys r.p.parts.length) ∧ ∀ e ∈ kn, Off (L ++ r.M) H e.2 = some (.lst (iv (reachedBy r.p r.m e.1)))
abbrev FrR (r : Rch) (H H' : Hp) : Prop := Same (Off r.M H) (Off r.M H')
theorem ReachS.via {L L' : List Addr} {H H' : Hp} {r : Rch} (h : ReachS K L H r) (g : Same (Off (L ++ r.M) H) (Off (L' ++ r.M) H')) (o : H' r.a = H r.a) (k : H' r.dk = H r.dk) (na : r.a ∉ L') (nk : r.dk ∉ L') (live : ∀ x ∈ L', ∃ o, H' x = some o) : ReachS K L' H' r := by
  obtain ⟨e, wf, m3, _, _, _, pr, ta, kn, k1, k2, k3, k4⟩ := h
  exact ⟨o.trans e, wf, m3, live, na, nk, pr.same g, ta.imp id fun ⟨z, T, e, t⟩ => ⟨z, T, e, t.same g⟩, kn, k.trans k1, k2, k3, fun e he => g _ _ (k4 e he)⟩
theorem ReachS.dk_some {L : List Addr} {H : Hp} {r : Rch} (h : ReachS K L H r) : ∃ kvs, H r.dk = some (.dT kvs) := by
  obtain ⟨kn, z, _⟩ := h.known
  exact ⟨_, z⟩
theorem ReachS.same {L : List Addr} {H H' : Hp} {r : Rch} (h : ReachS K L H r) (f : Same H H') : ReachS K L H' r := by
  obtain ⟨kvs, hk⟩ := h.dk_some
  exact h.via (off_same f) ((f _ _ h.obj).trans h.obj.symm) ((f _ _ hk).trans hk.symm) h.na h.nk fun x hx => (h.live x hx).imp fun o e => f _ _ e
/-- something new that a caller makes -/
theorem ReachS.open_ {L : List Addr} {H : Hp} {r : Rch} {l : Addr} {o : HO} (h : ReachS K L H r) (hl : H l = none) : ReachS K (l :: L) (upd H l o) r := by
  obtain ⟨kvs, hk⟩ := h.dk_some
  have n1 : r.a ≠ l := ne_of_none h.obj hl
  have n2 : r.dk ≠ l := ne_of_none hk hl
  refine h.via (fun b u e => ?_) (upd_ne n1) (upd_ne n2) (fun z => (List.mem_cons.mp z).elim n1 h.na) (fun z => (List.mem_cons.mp z).elim n2 h.nk) fun x hx => ?_
  · obtain ⟨e1, e2⟩ := off_some.mp e
    have hb : b ≠ l := ne_of_none e2 hl
    exact off_some.mpr ⟨fun z => (List.mem_cons.mp z).elim hb e1, by rw [upd_ne hb]; exact e2⟩
  · by_cases hx' : x = l
    · exact ⟨o, by rw [hx', upd_same]⟩
    · obtain ⟨u, hu⟩ := h.live x ((List.mem_cons.mp hx).resolve_left hx')
      exact ⟨u, by rw [upd_ne hx']; exact hu⟩
/-- it is written -/
theorem ReachS.put {L : List Addr} {H : Hp} {r : Rch} {l : Addr} {o : HO} (h : ReachS K L H r) (hl : l ∈ L) : ReachS K L (upd H l o) r := by
  have n1 : r.a ≠ l := fun z => h.na (by rw [z]; exact hl)
  have n2 : r.dk ≠ l := fun z => h.nk (by rw [z]; exact hl)
  refine h.via (by rw [off_upd (List.mem_append_left _ hl)]; exact Same.refl _) (upd_ne n1) (upd_ne n2) h.na h.nk fun x hx => ?_
  by_cases hx' : x = l
  · exact ⟨o, by rw [hx', upd_same]⟩
  · obtain ⟨u, hu⟩ := h.live x hx
    exact ⟨u, by rw [upd_ne hx']; exact hu⟩
/-- it is made -/
theorem ReachS.close {L L' : List Addr} {H : Hp} {r : Rch} (h : ReachS K L H r) (hl : ∀ x ∈ L', x ∈ L) : ReachS K L' H r :=
  h.via (off_less fun b hb => by
    rcases List.mem_append.mp hb with z | z
    · exact List.mem_append_left _ (hl b z)
    · exact List.mem_append_right _ z) rfl rfl (fun z => h.na (hl _ z)) (fun z => h.nk (hl _ z)) fun x hx => h.live x (hl x hx)
/-- a frame that leaves what is still made -/
theorem frR_put {r : Rch} {H : Hp} {l : Addr} {o : HO} (h : H l = none) : FrR r H (upd H l o) := off_new h
/-- how large a part is -/
def sizeP (p : Prog) (k : Nat) : Nat := ((p.parts[k]?).map fun x => x.size).getD 0
theorem ints_sum (l : List Nat) : (toZ l).sum = ((l.sum : Nat) : Int) := by
  unfold toZ
  induction l with
  | nil => rfl
  | cons a r ih =>
    rw [List.map_cons, List.sum_cons, List.sum_cons, ih]
    omega
abbrev N_Program_size_of : List Str := ["self", "numbers", "number"]
abbrev P_Program_size_of : List Str := ["self", "numbers"]
theorem sc_Program_size_of : FnScope N_Program_size_of P_Program_size_of (defScope s_Program_size_of) := ⟨rfl, rfl, rfl, by decide +kernel, rfl, by decide +kernel, by decide +kernel⟩
def sp_size_of (K : PySem.W.Frag) : Sp := fun vs H Q _ => ∃ (pa l : Addr) (p : Prog) (ks : List Nat), vs = [.ref pa, .ref l] ∧ ProgAt K H pa p ∧ Wfp p ∧ H l = some (.lst (iv ks)) ∧ ks.length ≤ 10 ∧ (∀ k ∈ ks, k < p.parts.length) ∧ ∀ H', Same H H' → Q (.int (sizeOf_ p ks : Nat)) H'
theorem ok_Program_size_of (T : Tx K mg) : Df P w K mg base CX0 (1) (He.ma K (He.ga K "Program") "size_of") P_Program_size_of (sp_size_of K) := by
  refine df_mk (F_Program_size_of T) sc_Program_size_of (fun _ _ _ _ _ _ us hl => match us, hl with | [_, _], _ => rfl) (fun vs H Q E h => by obtain ⟨_, _, _, _, rfl, _⟩ := h; rfl) (fun cdv A outer s H vs Q E hr h => ⟨_, (pss_one (ps_ret (pe_callB (cr_sum rfl) (by rfl) (b_sum T) (by decide +kernel) (pa_cons (pe_lc rfl sc_Program_size_of.nd (own := [("number", 2)]) (pi_list (pv 1)) (blkOk_by (own := [("number", 2)]) (N := N_Program_size_of) (sc := defScope s_Program_size_of) (by decide +kernel)) (fun _ _ _ _ _ => pg_name (i := 2) sc_Program_size_of.nd rfl (Or.inl rfl)) (fun _ _ _ _ _ => pts_nil) (fun _ _ _ _ _ => (pe_fldK (K := K) rfl (pe_ix (ix_listK (K := K) rfl) (pe_fldK (K := K) rfl (pv 0) rfl) (pv 2) (fun _ _ => rfl)) rfl))) pa_nil)))), ?_⟩)
  obtain ⟨pa, l, p, ks, rfl, hP, hw, hl, hk10, hks, q⟩ := h
  obtain ⟨dxP, lS, lP, lE, dN, sa, pl, p1, p2, p3, p4, p5, p6, p7⟩ := id hP
  refine ⟨_, rfl, l, rfl, ⟨_, SqL.of hl⟩, fun D hD => ?_⟩
  have hikl : (iv ks).length = ks.length := List.length_map _
  refine lc_it walk_list (fun j H' => Same H H' ∧ H' D = some (.lst ((toZ ((ks.take j).map (sizeP p))).map V.int))) ⟨same_new hD, upd_same⟩ (fun j H' _ h => SqL.of (h.1 _ _ hl)) ?_ ?_
  · rintro j x H1 H2 hj ⟨k1, k2⟩ ⟨rfl, hx⟩
    rw [List.getElem?_map] at hx
    obtain ⟨k, hk, rfl⟩ := Option.map_eq_some_iff.mp hx
    have hkl := hks k (List.mem_of_getElem? hk)
    have hxk : p.parts[k]? = some p.parts[k] := List.getElem?_eq_getElem hkl
    obtain ⟨pp, hpp, dxp, lb, us, g1, g2, g3⟩ := p5.at_ hxk
    have hix : atI (pl.map V.ref) (k : Int) = some (.ref pp) := atI_nat (by rw [List.getElem?_map, hpp] <;> rfl)
    have hsz : sizeP p k = p.parts[k].size := by
      unfold sizeP
      rw [hxk] <;> rfl
    refine ⟨rfl, _, rfl, pa, _, dxP, _, _, rfl, k1 _ _ p1, c_Program T, n_Program_parts T, rfl, _, rfl, lP, _, _, _, rfl, rfl, SqL.of (k1 _ _ p4), hix, pp, _, dxp, _, _, rfl, k1 _ _ g1, c_Part T, n_Part_size T, rfl, _, k2, ?_, same_upd k1 hD, ?_⟩
    · rw [List.length_map]
      unfold toZ
      rw [List.length_map, List.length_map, List.length_take]
      exact Nat.lt_of_le_of_lt (by omega : _ ≤ 10) (by decide)
    · rw [upd_same, List.take_add_one, hk, ← hsz]
      unfold toZ
      rw [List.map_append, List.map_append, List.map_append] <;> rfl
  · rintro H1 ⟨k1, k2⟩
    rw [hikl, List.take_length] at k2
    refine ⟨D, _, rfl, SqL.of k2, ?_⟩
    rw [ints_sum]
    exact q H1 k1
abbrev N_Reach_init : List Str := ["self", "program", "mode"]
abbrev P_Reach_init : List Str := ["self", "program", "mode"]
theorem sc_Reach_init : FnScope N_Reach_init P_Reach_init (defScope s_Reach_init) := ⟨rfl, rfl, rfl, by decide +kernel, rfl, by decide +kernel, by decide +kernel⟩
def sp_Reach_init (K : PySem.W.Frag) : Sp := fun vs H Q _ => ∃ (a dx pa : Addr) (p : Prog) (m : Nat), vs = [.ref a, .ref pa, .int m] ∧ H a = some (.ins (He.ga K "Reach") dx []) ∧ ProgAt K (Off [a] H) pa p ∧ Wfp p ∧ m < 3 ∧
  ∀ (H' : Hp) (r : Rch), r.a = a → r.p = p → r.m = m → r.pa = pa → ReachS K [] H' r → (∀ b o, b ≠ a → H b = some o → H' b = some o) → H r.dk = none → Q .non H'
theorem ok_Reach_init (T : Tx K mg) (D_tables_of : Df P w K mg base CX0 (7) (He.ga K "tables_of") P_tables_of (sp_tables_of K)) : Df P w K mg base CX0 (8) (He.ma K (He.ga K "Reach") "__init__") P_Reach_init (sp_Reach_init K) := by
  refine df_mk (F_Reach_init T) sc_Reach_init (fun _ _ _ _ _ _ us hl => match us, hl with | [_, _, _], _ => rfl) (fun vs H Q E h => by obtain ⟨_, _, _, _, _, rfl, _⟩ := h; rfl) (fun cdv A outer s H vs Q E hr h => ⟨_, (pss_cons (ps_fld (pv 0) (pv 1) rfl) (pss_cons (ps_fld (pv 0) (pe_ifExp (pt_cmpR op_eq (pv 2) (pg (i_EXACTLY T)) (nomark _)) pe_non (pf D_tables_of (g_tables_of T) hr (pa_cons (pv 1) (pa_cons (pv 2) pa_nil)))) rfl) (pss_one (ps_fld (pv 0) pe_dnewT rfl)))), ?_⟩)
  obtain ⟨a, dx, pa, p, m, rfl, ha, hP, hw, hm, q⟩ := h
  have fin : ∀ (H3 : Hp) (tv : V), H3 a = some (.ins (He.ga K "Reach") dx [("program", .ref pa), ("tables", tv)]) → (∀ b o, b ≠ a → H b = some o → H3 b = some o) → ((m = 2 ∧ tv = .non) ∨ (m < 2 ∧ ∃ R, tv = .ref R ∧ TabsAt (Off [a] H3) R (tables p m))) →
      ∀ dk, H3 dk = none → Q .non (upd (upd H3 dk (.dT [])) a (.ins (He.ga K "Reach") dx [("program", .ref pa), ("tables", tv), ("known", .ref dk)])) := fun H3 tv h3 s3 t3 dk hdk => by
    have hda : dk ≠ a := fun z => by rw [z, h3] at hdk; cases hdk
    have step : ∀ G : Hp, (∀ b o, b ≠ a → G b = some o → H3 b = some o) → Same (Off [a] G) (Off [dk] (upd (upd H3 dk (.dT [])) a (.ins (He.ga K "Reach") dx [("program", .ref pa), ("tables", tv), ("known", .ref dk)]))) := fun G g b o e => by
      obtain ⟨e1, e2⟩ := off_some.mp e
      have hba : b ≠ a := fun z => e1 (List.mem_singleton.mpr z)
      have e3 := g b o hba e2
      have hbd : b ≠ dk := ne_of_none e3 hdk
      exact off_some.mpr ⟨fun z => hbd (List.mem_singleton.mp z), by rw [upd_ne hba, upd_ne hbd]; exact e3⟩
    refine q _ ⟨a, dx, pa, dk, tv, p, m⟩ rfl rfl rfl rfl ⟨upd_same, hw, hm, (fun x hx => nomatch hx), (fun hx => nomatch hx), (fun hx => nomatch hx), hP.same (step H s3), t3.imp id fun ⟨z, R, e, t⟩ => ⟨z, R, e, t.same (step H3 fun b o _ e => e)⟩, [], ?_, List.nodup_nil, (fun e he => nomatch he), (fun e he => nomatch he)⟩ (fun b o hb e => ?_) ?_
    · rw [upd_ne hda, upd_same] <;> rfl
    · rw [upd_ne hb, upd_ne (ne_of_none (s3 b o hb e) hdk)]
      exact s3 b o hb e
    · show H dk = none
      cases e : H dk with
      | none => rfl
      | some o =>
        rw [s3 dk o hda e] at hdk
        cases hdk
  refine ⟨_, rfl, _, rfl, a, _, dx, _, rfl, ha, c_Reach T, n_Reach_program T, (by show 0 < 1000; decide), ?_⟩
  have h1 : upd H a (.ins (He.ga K "Reach") dx [("program", .ref pa)]) a = some (.ins (He.ga K "Reach") dx [("program", .ref pa)]) := upd_same
  have s1 : ∀ b o, b ≠ a → H b = some o → upd H a (.ins (He.ga K "Reach") dx [("program", .ref pa)]) b = some o := fun b o hb e => by rw [upd_ne hb]; exact e
  have hP1 : ProgAt K (upd H a (.ins (He.ga K "Reach") dx [("program", .ref pa)])) pa p := hP.same fun b o e => by
    obtain ⟨e1, e2⟩ := off_some.mp e
    exact s1 b o (fun z => e1 (List.mem_singleton.mpr z)) e2
  refine ⟨_, rfl, rfl, _, rfl, ?_⟩
  refine iteD (fun hd => ?_) (fun hd => ?_)
  · have hm2 : m = 2 := by
      injection hd with hd
      omega
    refine ⟨_, rfl, a, _, dx, _, rfl, h1, c_Reach T, n_Reach_tables T, (by show 1 < 1000; decide), fun dk hdk => ?_⟩
    have hda : dk ≠ a := fun z => by rw [z, upd_same] at hdk; cases hdk
    refine ⟨_, rfl, a, _, dx, _, rfl, (by rw [upd_ne (Ne.symm hda)]; exact upd_same), c_Reach T, n_Reach_known T, (by show 2 < 1000; decide), ?_⟩
    exact fin _ .non upd_same (fun b o hb e => by rw [upd_ne hb]; exact s1 b o hb e) (.inl ⟨hm2, rfl⟩) dk hdk
  · have hm2 : m < 2 := by
      rcases Nat.lt_or_ge m 2 with z | z
      · exact z
      · exact absurd (by rw [show m = 2 by omega] <;> rfl) hd
    refine ⟨_, rfl, _, rfl, pa, p, m, rfl, hm2, hP1, hw, fun H2 R s2 hR hT => ?_⟩
    refine ⟨_, rfl, a, _, dx, _, rfl, s2 _ _ h1, c_Reach T, n_Reach_tables T, (by show 1 < 1000; decide), fun dk hdk => ?_⟩
    have hda : dk ≠ a := fun z => by rw [z, upd_same] at hdk; cases hdk
    refine ⟨_, rfl, a, _, dx, _, rfl, (by rw [upd_ne (Ne.symm hda)]; exact upd_same), c_Reach T, n_Reach_known T, (by show 2 < 1000; decide), ?_⟩
    refine fin _ (.ref R) upd_same (fun b o hb e => by rw [upd_ne hb]; exact s2 _ _ (s1 b o hb e)) (.inr ⟨hm2, R, rfl, ?_⟩) dk hdk
    have e0 : Off [a] (upd H2 a (.ins (He.ga K "Reach") dx [("program", .ref pa), ("tables", .ref R)])) = Off [a] H2 := off_upd (List.mem_singleton.mpr rfl)
    show TabsAt (Off [a] (upd H2 a (.ins (He.ga K "Reach") dx [("program", .ref pa), ("tables", .ref R)]))) R (tables p m)
    rw [e0]
    obtain ⟨as, t1, t2⟩ := hT
    have off : ∀ {b : Addr} {l : List V}, H2 b = some (.lst l) → Off [a] H2 b = some (.lst l) := fun {b} {l} e => off_some.mpr ⟨fun z => ne_kind e (s2 _ _ h1) (by intro y; cases y) (List.mem_singleton.mp z), e⟩
    exact ⟨as, off t1, t2.mono fun T t ⟨rs, z1, z2⟩ => ⟨rs, off z1, z2.mono fun _ _ y => off y⟩⟩
end
end Vf

set_option Elab.async false
set_option linter.all false
set_option maxRecDepth 100000
set_option maxHeartbeats 4000000
/-! What is come to: looked for. -/
namespace Vf
open PySem PySem.Spec PyProof.Rows L2
open VakepBase (Bytes)
open Vakepa (Prog total valuesOf sizeOf_)
open Vakepb (tables nextBy nextAny reachedBy lost enters comesAll)
section
variable {P : Program} {w : World} {K : PySem.W.Frag} {mg : Str → Option Value} {base : Heap}
/-- keys of parts -/
abbrev kN (l : List Nat) : List Key := l.map fun (k : Nat) => Sum.inl (k : Int)
theorem kN_mem {k : Nat} {l : List Nat} : (Sum.inl (k : Int) : Key) ∈ kN l ↔ k ∈ l := by
  unfold kN
  rw [List.mem_map]
  exact ⟨fun ⟨j, hj, e⟩ => by rw [← key_int.mp e]; exact hj, fun h => ⟨k, h, rfl⟩⟩
theorem keys_put {kvs : List (Key × V)} {ks : List Nat} (h : kvs.map (·.1) = kN ks) (k : Nat) (v : V) : (putK kvs (Sum.inl (k : Int)) v).map (·.1) = kN (if ks.contains k = true then ks else ks ++ [k]) := by
  have hany : (kvs.any fun kv => decide (kv.1 = (Sum.inl (k : Int) : Key))) = ks.contains k := by
    rw [Bool.eq_iff_iff, List.any_eq_true, List.contains_iff_mem, ← kN_mem, ← h, List.mem_map]
    exact ⟨fun ⟨x, h1, h2⟩ => ⟨x, h1, of_decide_eq_true h2⟩, fun ⟨x, h1, h2⟩ => ⟨x, h1, decide_eq_true h2⟩⟩
  unfold putK
  rw [hany]
  split
  · rw [List.map_map, ← h]
    refine List.map_congr_left fun x _ => ?_
    show (if _ then _ else _ : Key × V).1 = _
    split <;> rfl
  · rw [List.map_append, h]
    unfold kN
    rw [List.map_append] <;> rfl
theorem keys_merge : ∀ {ms : List Nat} {more kvs : List (Key × V)} {ks : List Nat}, more.map (·.1) = kN ms → kvs.map (·.1) = kN ks → ks.Nodup → ∃ ks', (mergeK kvs more).map (·.1) = kN ks' ∧ ks'.Nodup ∧ ∀ k, k ∈ ks' ↔ k ∈ ks ∨ k ∈ ms
  | [], [], kvs, ks, _, h2, hn => ⟨ks, h2, hn, fun k => ⟨.inl, fun z => z.elim id (fun z => nomatch z)⟩⟩
  | [], _ :: _, _, _, h, _, _ => nomatch h
  | _ :: _, [], _, _, h, _, _ => nomatch h
  | m :: ms, p :: more, kvs, ks, h1, h2, hn => by
    have h1' : p.1 :: more.map (·.1) = (Sum.inl (m : Int) : Key) :: kN ms := h1
    obtain ⟨e1, e2⟩ := List.cons.inj h1'
    have hp : (putK kvs p.1 p.2).map (·.1) = kN (if ks.contains m = true then ks else ks ++ [m]) := by
      rw [e1]
      exact keys_put h2 m p.2
    have hn' : (if ks.contains m = true then ks else ks ++ [m]).Nodup := by
      split
      · exact hn
      · rename_i hc
        rw [List.nodup_append]
        refine ⟨hn, by simp, fun a ha b hb e => ?_⟩
        rw [List.mem_singleton] at hb
        subst hb
        subst e
        exact hc (List.contains_iff_mem.mpr ha)
    obtain ⟨ks', k1, k2, k3⟩ := keys_merge e2 hp hn'
    refine ⟨ks', k1, k2, fun k => ?_⟩
    rw [k3, List.mem_cons]
    have : k ∈ (if ks.contains m = true then ks else ks ++ [m]) ↔ k ∈ ks ∨ k = m := by
      split
      · rename_i hc
        have := List.contains_iff_mem.mp hc
        exact ⟨.inl, fun z => z.elim id fun z => by rw [z]; exact this⟩
      · rw [List.mem_append, List.mem_singleton]
    rw [this, or_assoc]
theorem ch_keys : ∀ {cs : List (List Nat)} {as : List Addr}, as.length = cs.length → (chKv cs as).map (·.1) = kN (cs.map lst)
  | [], [], _ => rfl
  | _ :: _, [], h => nomatch h
  | [], _ :: _, h => nomatch h
  | c :: cs, a :: as, h => by
    show (Sum.inl (lst c : Int) : Key) :: (chKv cs as).map (·.1) = _
    rw [ch_keys (Nat.succ.inj h)] <;> rfl
theorem kv_len {kvs : List (Key × V)} {ks : List Nat} (h : kvs.map (·.1) = kN ks) : kvs.length = ks.length := by
  have := congrArg List.length h
  rw [List.length_map, List.length_map] at this
  exact this
abbrev N_Reach_search : List Str := ["self", "away", "found", "table"]
abbrev P_Reach_search : List Str := ["self", "away"]
theorem sc_Reach_search : FnScope N_Reach_search P_Reach_search (defScope s_Reach_search) := ⟨rfl, rfl, rfl, by decide +kernel, rfl, by decide +kernel, by decide +kernel⟩
def sp_search (K : PySem.W.Frag) : Sp := fun vs H Q _ => ∃ (L : List Addr) (r : Rch) (aw : Addr) (gone : List Nat), vs = [.ref r.a, .ref aw] ∧ ReachS K L H r ∧ AwayAt H aw gone ∧
  ∀ d kvs ks H', Same H H' → H d = none → H' d = some (.dK kvs) → kvs.map (·.1) = kN ks → ks.Nodup → (∀ k, k ∈ ks ↔ k ∈ reachedBy r.p r.m gone) → Q (.ref d) H'
theorem ok_Reach_search (T : Tx K mg) (D_entered_by_runs : Df P w K mg base CX0 (95) (He.ga K "entered_by_runs") P_entered_by_runs (sp_entered K)) (D_chains_by : Df P w K mg base CX0 (1) (He.ga K "chains_by") P_chains_by (sp_chains_by K)) : Df P w K mg base CX0 (96) (He.ma K (He.ga K "Reach") "search") P_Reach_search (sp_search K) := by
  refine df_mk (F_Reach_search T) sc_Reach_search (fun _ _ _ _ _ _ us hl => match us, hl with | [_, _], _ => rfl) (fun vs H Q E h => by obtain ⟨_, _, _, _, rfl, _⟩ := h; rfl) (fun cdv A outer s H vs Q E hr h => ⟨_, (pss_cons (ps_if (pt_cmpR op_isN (pe_fld (pv 0) rfl) pe_non (nomark _)) (pss_one (ps_ret (pf D_entered_by_runs (g_entered_by_runs T) hr (pa_cons (pe_fld (pv 0) rfl) (pa_cons (pv 1) pa_nil))))) pss_nil) (pss_cons (ps_set (i := 2) sc_Reach_search.nd rfl (Or.inl rfl) pe_dnewK) (pss_cons (ps_for PassesOwn.never rfl (pi_list (pe_fld (pv 0) rfl)) (pg_name (i := 3) sc_Reach_search.nd rfl (Or.inl rfl)) (pss_one (ps_expr (pe_bm PySem.F.plainAttrs_dict PySem.F.slot_dict_update PySem.F.type_dict_update mt_update (pv 2) (pa_cons (pf D_chains_by (g_chains_by T) hr (pa_cons (pv 3) (pa_cons (pe_fld (pe_fld (pv 0) rfl) rfl) (pa_cons (pv 1) pa_nil)))) pa_nil))))) (pss_one (ps_ret (pv 2)))))), ?_⟩)
  obtain ⟨L, r, aw, gone, rfl, h, haw, q⟩ := h
  obtain ⟨dxP, lS, lP, lE, dN, sa, pl, p1, p2, p3, p4, p5, p6, p7⟩ := id h.prog
  have hw := h.wf
  refine ⟨_, rfl, r.a, _, r.dx, _, _, rfl, h.obj, c_Reach T, n_Reach_tables T, rfl, rfl, _, rfl, ?_⟩
  refine iteD (fun hn => ?_) (fun hn => ?_)
  · have hm2 : r.m = 2 := by
      rcases h.tabs with ⟨z, _⟩ | ⟨_, R, z, _⟩
      · exact z
      · rw [z] at hn
        cases hn
    refine ⟨_, rfl, r.a, _, r.dx, _, _, rfl, h.obj, c_Reach T, n_Reach_program T, rfl, _, rfl, r.pa, aw, r.p, gone, rfl, h.prog.same off_le, hw, haw, fun d l H' s hd e ok mem => ?_⟩
    refine q d (entKv l) l H' s hd e ?_ ok.1 fun k => ?_
    · unfold entKv kN
      rw [List.map_map] <;> rfl
    · rw [mem]
      unfold reachedBy
      rw [if_pos hm2]
  · obtain ⟨hm2, R, htv, as, hR, has⟩ : r.m < 2 ∧ ∃ R, r.tv = .ref R ∧ TabsAt (Off (L ++ r.M) H) R (tables r.p r.m) := by
      rcases h.tabs with ⟨_, z⟩ | z
      · exact absurd z hn
      · exact z
    refine fun D hD => ?_
    have s1 := same_new (o := .dK []) hD
    refine ⟨_, rfl, r.a, _, r.dx, _, _, rfl, s1 _ _ h.obj, c_Reach T, n_Reach_tables T, rfl, R, htv, ⟨_, SqL.of (s1 _ _ (off_le _ _ hR))⟩, ?_⟩
    refine for_it walk_list (fun i σ H' => ∃ (x3 : Option V) (kvs : List (Key × V)) (ks : List Nat), σ = [some (.ref r.a), some (.ref aw), some (.ref D), x3] ∧ Same H H' ∧ H' D = some (.dK kvs) ∧ kvs.map (·.1) = kN ks ∧ ks.Nodup ∧
        ∀ k, k ∈ ks ↔ ∃ t ∈ (tables r.p r.m).take i, k ∈ (found r.p.parts.length t r.p.starts gone).map lst)
      ⟨none, [], [], rfl, s1, upd_same, rfl, List.nodup_nil, fun k => ⟨(fun z => nomatch z), (fun ⟨t, z, _⟩ => by rw [List.take_zero] at z; exact nomatch z)⟩⟩ (fun i σ H' _ ⟨_, _, _, _, f, _⟩ => SqL.of (f _ _ (off_le _ _ hR))) ?_ ?_
    · rintro i x σ H1 H2 hi ⟨y3, kvs, ks, rfl, k1, k2, k3, k4, k5⟩ ⟨rfl, hx⟩
      rw [List.getElem?_map] at hx
      obtain ⟨ta, hta, rfl⟩ := Option.map_eq_some_iff.mp hx
      obtain ⟨t, ht, hat⟩ := has.at' hta
      have htm := List.mem_of_getElem? ht
      have hrows := rows_tables r.p r.m t htm
      have htl : t.length = r.p.parts.length := by
        unfold tables at htm
        split at htm
        · obtain ⟨a, _, rfl⟩ := List.mem_map.mp htm
          unfold nextBy
          rw [List.length_map, List.length_range]
        · rw [List.mem_singleton.mp htm]
          unfold nextAny
          rw [List.length_map, List.length_range]
      have sO : Same (Off (L ++ r.M) H) H2 := off_le.trans k1
      refine ⟨_, rfl, .inr (.inr (.inl ⟨rfl, .inl ⟨_, k2⟩⟩)), _, rfl, _, rfl, r.a, _, r.dx, _, _, rfl, k1 _ _ h.obj, c_Reach T, n_Reach_program T, rfl, r.pa, _, dxP, _, _, rfl, sO _ _ p1, c_Program T, n_Program_entries T, rfl, _, rfl, ta, lE, aw, t, r.p.starts, gone, r.p.parts.length, rfl, hat.same sO, sO _ _ p6, haw.same k1, hw.en, hw.eg, hrows, htl, hw.p10, fun H3 d s3 hd hch => ?_⟩
      obtain ⟨cs, g1, g2⟩ := hch
      have hcl := g2.len
      obtain ⟨o1, o2, o3⟩ := found_ok (t := t) (away := gone) hrows hw.en hw.eg
      have hdD : D ≠ d := ne_of_none k2 hd
      have hks10 : ks.length ≤ 10 := by
        refine Nat.le_trans (le_of_lt k4 fun k hk => ?_) hw.p10
        obtain ⟨t', ht', z⟩ := (k5 k).mp hk
        exact ((found_ok (rows_tables r.p r.m t' (List.mem_of_mem_take ht')) hw.en hw.eg).2.1 k z).1
      have hml : (chKv (found r.p.parts.length t r.p.starts gone) cs).length ≤ 10 := by
        rw [chKv_len hcl]
        have := le_of_lt o1 fun k hk => (o2 k hk).1
        rw [List.length_map] at this
        exact Nat.le_trans this hw.p10
      refine ⟨D, d, kvs, _, rfl, rfl, s3 _ _ k2, g1, hdD, ?_, ?_⟩
      · rw [kv_len k3]
        exact Nat.le_trans (Nat.add_le_add hks10 hml) (by decide)
      · obtain ⟨ks', m1, m2, m3⟩ := keys_merge (ch_keys hcl) k3 k4
        refine ⟨_, _, ks', rfl, same_upd (k1.trans s3) hD, upd_same, m1, m2, fun k => ?_⟩
        rw [m3, k5, List.take_add_one, ht]
        constructor
        · rintro (⟨t', h1, h2⟩ | h2)
          · exact ⟨t', List.mem_append_left _ h1, h2⟩
          · exact ⟨t, List.mem_append_right _ (List.mem_singleton.mpr rfl), h2⟩
        · rintro ⟨t', h1, h2⟩
          rcases List.mem_append.mp h1 with h1 | h1
          · exact .inl ⟨t', h1, h2⟩
          · rw [List.mem_singleton.mp h1] at h2
            exact .inr h2
    · rintro σ H1 ⟨y3, kvs, ks, rfl, k1, k2, k3, k4, k5⟩
      refine ⟨_, rfl, q D kvs ks H1 k1 hD k2 k3 k4 fun k => ?_⟩
      rw [k5, List.length_map, has.len, List.take_length]
      unfold reachedBy
      rw [if_neg (by omega), mem_comesAll hw]
theorem iv_kV (l : List Nat) : (kN l).map kV = iv l := by
  unfold kN iv
  rw [List.map_map] <;> rfl
theorem toZ_iv (l : List Nat) : (toZ l).map V.int = iv l := by
  unfold toZ iv
  rw [List.map_map] <;> rfl
theorem kN_inj : ∀ {a b : List Nat}, kN a = kN b → a = b
  | [], [], _ => rfl
  | [], _ :: _, h => nomatch h
  | _ :: _, [], h => nomatch h
  | x :: a, y :: b, h => by
    have h : (Sum.inl (x : Int) : Key) :: kN a = Sum.inl (y : Int) :: kN b := h
    obtain ⟨e1, e2⟩ := List.cons.inj h
    rw [key_int.mp e1, kN_inj e2]
/-- what is known, by its keys -/
theorem kn_any (ks : List Nat) : ∀ kn : List (List Nat × Addr), ((knKv kn).any fun kv => decide (kv.1 = kN ks)) = (kn.map (·.1)).contains ks
  | [] => rfl
  | e :: kn => by
    show ((kN e.1, V.ref e.2) :: knKv kn).any _ = (e.1 :: kn.map (·.1)).contains ks
    rw [List.any_cons, kn_any ks kn, List.contains_cons]
    congr 1
    show decide _ = _
    rw [Bool.eq_iff_iff, decide_eq_true_eq, beq_iff_eq]
    exact ⟨fun h => (kN_inj h).symm, fun h => by rw [h]⟩
theorem kn_none {ks : List Nat} {kn : List (List Nat × Addr)} (h : (kn.map (·.1)).contains ks = false) : valV (knKv kn) (kN ks) = none := by
  have := valV_any (kN ks) (knKv kn)
  rw [kn_any, h] at this
  cases e : valV (knKv kn) (kN ks) with
  | none => rfl
  | some v => rw [e] at this; cases this
theorem kn_some {ks : List Nat} : ∀ {kn : List (List Nat × Addr)}, (kn.map (·.1)).contains ks = true → ∃ e ∈ kn, e.1 = ks ∧ valV (knKv kn) (kN ks) = some (.ref e.2)
  | [], h => by cases h
  | e :: kn, h => by
    have h : (e.1 :: kn.map (·.1)).contains ks = true := h
    show ∃ f ∈ e :: kn, f.1 = ks ∧ valV ((kN e.1, V.ref e.2) :: knKv kn) (kN ks) = some (.ref f.2)
    by_cases he : e.1 = ks
    · exact ⟨e, List.mem_cons_self .., he, valV_pos (by rw [he])⟩
    · rw [List.contains_cons, Bool.or_eq_true] at h
      rcases h with h | h
      · exact absurd (eq_of_beq h).symm he
      · obtain ⟨f, h1, h2, h3⟩ := kn_some h
        exact ⟨f, List.mem_cons_of_mem _ h1, h2, by rw [valV_neg (fun z => he (kN_inj z))]; exact h3⟩
theorem kn_put {ks : List Nat} {kn : List (List Nat × Addr)} {l : Addr} (h : (kn.map (·.1)).contains ks = false) : putK (knKv kn) (kN ks) (.ref l) = knKv (kn ++ [(ks, l)]) := by
  rw [putK_new _ (kn_none h)]
  unfold knKv
  rw [List.map_append] <;> rfl
/-- what stands for some parts that are away -/
def keyOf (n : Nat) (away : List Nat) : List Nat := (List.range n).filter fun k => away.contains k
theorem keyOf_same {n : Nat} {away : List Nat} (h : ∀ k ∈ away, k < n) : SameP (keyOf n away) away := fun k => by
  unfold keyOf
  rw [List.mem_filter, List.mem_range, List.contains_iff_mem]
  exact ⟨fun z => z.2, fun z => ⟨h k z, z⟩⟩
theorem keyOf_asc (n : Nat) (away : List Nat) : (keyOf n away).Pairwise (· < ·) := (asc_range n).filter _
theorem keyOf_all {n : Nat} {away : List Nat} (h2 : away.length ≤ 2) (h : ∀ k ∈ away, k < n) : keyOf n away ∈ allKeys n := by
  have hl : (keyOf n away).length ≤ away.length := (asc_nodup (keyOf_asc n away)).length_le_of_subset fun k hk => (keyOf_same h k).mp hk
  have hm : ∀ k ∈ keyOf n away, k < n := fun k hk => h k ((keyOf_same h k).mp hk)
  unfold allKeys
  match keyOf n away, hl, hm with
  | [], _, _ => exact List.mem_cons_self ..
  | [a], _, hm => exact List.mem_cons_of_mem _ (List.mem_append_left _ (List.mem_map.mpr ⟨a, List.mem_range.mpr (hm a (List.mem_singleton.mpr rfl)), rfl⟩))
  | [a, b], _, hm => exact List.mem_cons_of_mem _ (List.mem_append_right _ (List.mem_flatMap.mpr ⟨a, List.mem_range.mpr (hm a (by simp)), List.mem_map.mpr ⟨b, List.mem_range.mpr (hm b (by simp)), rfl⟩⟩))
  | _ :: _ :: _ :: _, hl, _ => rw [List.length_cons, List.length_cons, List.length_cons] at hl; omega
theorem keys_few {n : Nat} (h : n ≤ 10) : (allKeys n).length ≤ 111 := by
  unfold allKeys
  rw [List.length_cons, List.length_append, List.length_map, List.length_range, List.length_flatMap]
  have : (List.map (fun a => (List.map (fun b => [a, b]) (List.range n)).length) (List.range n)) = (List.range n).map fun _ => n := List.map_congr_left fun a _ => by rw [List.length_map, List.length_range]
  rw [this]
  have hs : ∀ l : List Nat, (l.map fun _ => n).sum = l.length * n := by
    intro l
    induction l with
    | nil => rw [List.map_nil, List.length_nil, Nat.zero_mul] <;> rfl
    | cons a r ih => rw [List.map_cons, List.sum_cons, ih, List.length_cons, Nat.succ_mul, Nat.add_comm]
  rw [hs, List.length_range]
  have : n * n ≤ 10 * 10 := Nat.mul_le_mul h h
  omega
theorem ascZ_eq {l m : List Int} (hl : l.Pairwise (· < ·)) (hm : m.Pairwise (· < ·)) (h : ∀ k, k ∈ l ↔ k ∈ m) : l = m := by
  refine List.Perm.eq_of_pairwise (le := (· < ·)) (fun a b _ _ h1 h2 => by omega) hl hm ((List.perm_ext_iff_of_nodup (hl.imp fun h => by omega) (hm.imp fun h => by omega)).mpr h)
theorem mem_toZ {k : Int} {l : List Nat} : k ∈ toZ l ↔ ∃ j ∈ l, (j : Int) = k := List.mem_map
abbrev N_Reach_come_to : List Str := ["self", "away", "key"]
abbrev P_Reach_come_to : List Str := ["self", "away"]
theorem sc_Reach_come_to : FnScope N_Reach_come_to P_Reach_come_to (defScope s_Reach_come_to) := ⟨rfl, rfl, rfl, by decide +kernel, rfl, by decide +kernel, by decide +kernel⟩
def sp_come_to (K : PySem.W.Frag) : Sp := fun vs H Q _ => ∃ (L : List Addr) (r : Rch) (aw : Addr) (away : List Nat), vs = [.ref r.a, .ref aw] ∧ ReachS K L H r ∧ H aw = some (.lst (iv away)) ∧ away.length ≤ 2 ∧ (∀ k ∈ away, k < r.p.parts.length) ∧
  ∀ H' l, FrR r H H' → ReachS K L H' r → Off r.M H' l = some (.lst (iv (reachedBy r.p r.m away))) → Q (.ref l) H'
theorem ok_Reach_come_to (T : Tx K mg) (D_Reach_search : Df P w K mg base CX0 (96) (He.ma K (He.ga K "Reach") "search") P_Reach_search (sp_search K)) : Df P w K mg base CX0 (97) (He.ma K (He.ga K "Reach") "come_to") P_Reach_come_to (sp_come_to K) := by
  refine df_mk (F_Reach_come_to T) sc_Reach_come_to (fun _ _ _ _ _ _ us hl => match us, hl with | [_, _], _ => rfl) (fun vs H Q E h => by obtain ⟨_, _, _, _, rfl, _⟩ := h; rfl) (fun cdv A outer s H vs Q E hr h => ⟨_, (pss_cons (ps_set (i := 2) sc_Reach_come_to.nd rfl (Or.inl rfl) (pe_callTy call_tuple_of (by rfl) (b_tuple T) (by decide +kernel) (pa_cons (pe_callB (cr_sortedSet rfl) (by rfl) (b_sorted T) (by decide +kernel) (pa_cons (pe_callTy (cr_setI rfl) (by rfl) (b_set T) (by decide +kernel) (pa_cons (pv 1) pa_nil)) pa_nil)) pa_nil))) (pss_cons (ps_if (pt_cmp (pc_dnotin (hu_of hr) (pv 2) (pe_fld (pv 0) rfl))) (pss_one (ps_dput (hu_of hr) (pe_fld (pv 0) rfl) (pv 2) (pe_callB (call_sortedDI rfl) (by rfl) (b_sorted T) (by decide +kernel) (pa_cons (pm D_Reach_search (c_Reach T) (m_Reach_search T)  hr (pv 0) (pa_cons (pv 2) pa_nil)) pa_nil)) rfl)) pss_nil) (pss_one (ps_ret (pe_dget (hu_of hr) (pe_fld (pv 0) rfl) (pv 2) (fun _ _ => rfl)))))), ?_⟩)
  obtain ⟨L, r, aw, away, rfl, h, haw, ha2, han, q⟩ := h
  have hw := h.wf
  refine ⟨_, rfl, aw, toZ away, rfl, SqL.of (by rw [toZ_iv]; exact haw), by unfold toZ; rw [List.length_map]; omega, fun sa c hsa hc => ?_⟩
  have hc2 : c < 64 := by
    unfold toZ at hc
    rw [List.length_map] at hc
    omega
  have s1 := same_new (o := SetO w sa (fun k => decide (k ∈ toZ away)) c) hsa
  refine ⟨sa, _, c, rfl, upd_same, hc2, fun ns p hasc hmem _ hp => ?_⟩
  have s2 := s1.trans (same_new (o := .lst (ns.map V.int)) hp)
  have hns : ns = toZ (keyOf r.p.parts.length away) := by
    refine ascZ_eq hasc ?_ fun k => ?_
    · unfold toZ
      rw [List.pairwise_map]
      exact (keyOf_asc _ _).imp fun h => by omega
    · rw [hmem, decide_eq_true_eq, mem_toZ, mem_toZ]
      exact ⟨fun ⟨j, hj, e⟩ => ⟨j, (keyOf_same han j).mpr hj, e⟩, fun ⟨j, hj, e⟩ => ⟨j, (keyOf_same han j).mp hj, e⟩⟩
  refine ⟨p, _, rfl, .inl ⟨SqL.of upd_same, fun t ht => ?_⟩⟩
  have s3 := s2.trans (same_new (o := .tup (ns.map V.int)) ht)
  have e3 : upd (upd (upd H sa (SetO w sa (fun k => decide (k ∈ toZ away)) c)) p (.lst (ns.map V.int))) t (.tup (ns.map V.int)) t = some (.tup (iv (keyOf r.p.parts.length away))) := by
    rw [upd_same, hns, toZ_iv]
  have hsame := keyOf_same han
  have hall := keyOf_all ha2 han
  have hreach : reachedBy r.p r.m (keyOf r.p.parts.length away) = reachedBy r.p r.m away := reached_same hsame r.m
  rw [← hreach] at q
  generalize keyOf r.p.parts.length away = key at e3 hall hreach q
  have h3 := h.same s3
  have f3 : FrR r H (upd (upd (upd H sa (SetO w sa (fun k => decide (k ∈ toZ away)) c)) p (.lst (ns.map V.int))) t (.tup (ns.map V.int))) := off_same s3
  obtain ⟨kn, k1, k2, k3, k4⟩ := h3.known
  have e3' : (upd (upd (upd H sa (SetO w sa (fun k => decide (k ∈ toZ away)) c)) p (.lst (ns.map V.int))) t (.tup (ns.map V.int))) t = some (.tup ((kN key).map kV)) := by rw [iv_kV]; exact e3
  refine ⟨_, rfl, _, rfl, r.a, _, r.dx, _, _, rfl, h3.obj, c_Reach T, n_Reach_known T, rfl, r.dk, _, rfl, DGet.t (k := kN key) k1 e3', _, rfl, ?_⟩
  have hda : r.a ≠ r.dk := ne_kind h3.obj k1 (by intro z; cases z)
  cases hcon : (kn.map (·.1)).contains key with
  | true =>
    obtain ⟨e, he, hek, hev⟩ := kn_some hcon
    rw [hev]
    refine iteF ?_
    have hDG : DGet (upd (upd (upd H sa (SetO w sa (fun k => decide (k ∈ toZ away)) c)) p (.lst (ns.map V.int))) t (.tup (ns.map V.int))) r.dk (.ref t) (some (.ref e.2)) := by
      rw [← hev]
      exact DGet.t (k := kN key) k1 e3'
    refine ⟨_, rfl, r.a, _, r.dx, _, _, rfl, h3.obj, c_Reach T, n_Reach_known T, rfl, _, rfl, r.dk, _, rfl, hDG, ?_⟩
    refine q _ e.2 f3 h3 ?_
    have := k4 e he
    rw [hek] at this
    exact off_less (fun b hb => List.mem_append_right _ hb) _ _ this
  | false =>
    rw [kn_none hcon]
    refine iteT ?_
    refine ⟨_, rfl, r.a, _, _, rfl, h3.obj, rfl, _, rfl, L, r, t, key, rfl, h3, .inr e3, fun d kvs ks H4 s4 hd e4 e5 e6 e7 => ?_⟩
    have hks10 : ks.length ≤ 10 := Nat.le_trans (le_of_lt e6 fun k hk => reached_lt ((e7 k).mp hk)) hw.p10
    refine ⟨d, kvs, toZ ks, rfl, .inl e4, ?_, ?_, fun ys l hperm hsort hl => ?_⟩
    · rw [e5]
      unfold kN toZ
      rw [List.map_map] <;> rfl
    · unfold toZ
      rw [List.length_map]
      omega
    have hys := sorted_is hperm hsort e6 (asc_reached r.p r.m key) e7
    have s5 := s4.trans (same_new (o := .lst (ys.map V.int)) hl)
    have e5l : upd H4 l (.lst (ys.map V.int)) l = some (.lst (iv (reachedBy r.p r.m key))) := by rw [upd_same, hys, toZ_iv]
    generalize upd H4 l (.lst (ys.map V.int)) = H5 at s5 e5l ⊢
    have h5 := h3.same s5
    have hknl : (knKv kn).length < sizeLine := by
      have := k2.length_le_of_subset (l₂ := allKeys r.p.parts.length) fun k hk => by
        obtain ⟨e, he, rfl⟩ := List.mem_map.mp hk
        exact k3 e he
      rw [List.length_map] at this
      unfold knKv
      rw [List.length_map]
      exact Nat.lt_of_le_of_lt (Nat.le_trans this (keys_few hw.p10)) (by decide)
    refine ⟨_, rfl, r.a, _, r.dx, _, _, rfl, h5.obj, c_Reach T, n_Reach_known T, rfl, _, rfl, r.dk, _, rfl, DPut.t (k := kN key) (s5 _ _ k1) (s5 _ _ e3') hknl, ?_⟩
    rw [kn_put hcon]
    have hld : l ≠ r.dk := ne_kind e5l (s5 _ _ k1) (by intro z; cases z)
    have htd : t ≠ r.dk := ne_kind e3 k1 (by intro z; cases z)
    have f6 : FrR r H5 (upd H5 r.dk (.dT (knKv (kn ++ [(key, l)])))) := by
      unfold FrR
      rw [off_upd (List.mem_singleton.mpr rfl)]
      exact Same.refl _
    have g6 : Same (Off (L ++ r.M) H5) (Off (L ++ r.M) (upd H5 r.dk (.dT (knKv (kn ++ [(key, l)]))))) := by
      rw [off_upd (List.mem_append_right _ (List.mem_singleton.mpr rfl))]
      exact Same.refl _
    have hlL : l ∉ L := fun z => by
      obtain ⟨o, e⟩ := h3.live l z
      rw [s4 _ _ e] at hl
      cases hl
    have e6l : Off (L ++ r.M) (upd H5 r.dk (.dT (knKv (kn ++ [(key, l)])))) l = some (.lst (iv (reachedBy r.p r.m key))) := off_some.mpr ⟨fun z => (List.mem_append.mp z).elim hlL fun z => hld (List.mem_singleton.mp z), by rw [upd_ne hld]; exact e5l⟩
    have h6 : ReachS K L (upd H5 r.dk (.dT (knKv (kn ++ [(key, l)])))) r := by
      refine ⟨by rw [upd_ne hda]; exact h5.obj, hw, h5.m3, fun x hx => ?_, h5.na, h5.nk, h5.prog.same g6, h5.tabs.imp id fun ⟨z, R, e, t⟩ => ⟨z, R, e, t.same g6⟩, kn ++ [(key, l)], upd_same, ?_, fun e he => ?_, fun e he => ?_⟩
      · obtain ⟨o, e⟩ := h5.live x hx
        exact ⟨o, by rw [upd_ne (fun z => h5.nk (by rw [← z]; exact hx))]; exact e⟩
      · rw [List.map_append, List.nodup_append]
        refine ⟨k2, by simp, fun a ha b hb z => ?_⟩
        rw [List.map_cons, List.map_nil, List.mem_singleton] at hb
        subst hb
        subst z
        rw [List.contains_iff_mem.mpr ha] at hcon
        cases hcon
      · rcases List.mem_append.mp he with he | he
        · exact k3 e he
        · rw [List.mem_singleton.mp he]
          exact hall
      · rcases List.mem_append.mp he with he | he
        · exact g6 _ _ (off_same s5 _ _ (k4 e he))
        · rw [List.mem_singleton.mp he]
          exact e6l
    have hcon2 : ((kn ++ [(key, l)]).map (·.1)).contains key = true := by
      rw [List.contains_iff_mem, List.map_append]
      exact List.mem_append_right _ (List.mem_singleton.mpr rfl)
    have hev : valV (knKv (kn ++ [(key, l)])) (kN key) = some (.ref l) := by
      rw [← kn_put hcon, valV_put, if_pos rfl]
    have hDG : DGet (upd H5 r.dk (.dT (knKv (kn ++ [(key, l)])))) r.dk (.ref t) (some (.ref l)) := by
      rw [← hev]
      exact DGet.t (k := kN key) upd_same (by rw [upd_ne htd]; exact s5 _ _ e3')
    refine ⟨_, rfl, r.a, _, r.dx, _, _, rfl, h6.obj, c_Reach T, n_Reach_known T, rfl, _, rfl, r.dk, _, rfl, hDG, ?_⟩
    exact q _ l ((f3.trans (off_same s5)).trans f6) h6 (off_less (fun b hb => List.mem_append_right _ hb) _ _ e6l)
end
end Vf

set_option Elab.async false
set_option linter.all false
set_option maxRecDepth 100000
set_option maxHeartbeats 4000000
/-! What is lost; the closest. -/
namespace Vf
open PySem PySem.Spec PyProof.Rows L2
open VakepBase (Bytes)
open Vakepa (Prog total valuesOf sizeOf_)
open Vakepb (tables nextBy nextAny reachedBy lost enters comesAll closest)
section
variable {P : Program} {w : World} {K : PySem.W.Frag} {mg : Str → Option Value} {base : Heap}
abbrev N_Reach_lost_with : List Str := ["self", "away", "rest", "number"]
abbrev P_Reach_lost_with : List Str := ["self", "away"]
theorem sc_Reach_lost_with : FnScope N_Reach_lost_with P_Reach_lost_with (defScope s_Reach_lost_with) := ⟨rfl, rfl, rfl, by decide +kernel, rfl, by decide +kernel, by decide +kernel⟩
def sp_lost_with (K : PySem.W.Frag) : Sp := fun vs H Q _ => ∃ (L : List Addr) (r : Rch) (aw : Addr) (away : List Nat), vs = [.ref r.a, .ref aw] ∧ ReachS K L H r ∧ H aw = some (.lst (iv away)) ∧ away.length ≤ 2 ∧ (∀ k ∈ away, k < r.p.parts.length) ∧
  ∀ H' l, FrR r H H' → ReachS K L H' r → Off r.M H' l = some (.lst (iv (lost r.p r.m away))) → Q (.ref l) H'
theorem ok_Reach_lost_with (T : Tx K mg) (D_Reach_come_to : Df P w K mg base CX0 (97) (He.ma K (He.ga K "Reach") "come_to") P_Reach_come_to (sp_come_to K)) : Df P w K mg base CX0 (98) (He.ma K (He.ga K "Reach") "lost_with") P_Reach_lost_with (sp_lost_with K) := by
  refine df_mk (F_Reach_lost_with T) sc_Reach_lost_with (fun _ _ _ _ _ _ us hl => match us, hl with | [_, _], _ => rfl) (fun vs H Q E h => by obtain ⟨_, _, _, _, rfl, _⟩ := h; rfl) (fun cdv A outer s H vs Q E hr h => ⟨_, (pss_cons (ps_set (i := 2) sc_Reach_lost_with.nd rfl (Or.inr rfl) (pm D_Reach_come_to (c_Reach T) (m_Reach_come_to T)  hr (pv 0) (pa_cons (pv 1) pa_nil))) (pss_one (ps_ret (pe_lc rfl sc_Reach_lost_with.nd (own := [("number", 3)]) (pi_list (pm D_Reach_come_to (c_Reach T) (m_Reach_come_to T)  hr (pv 0) (pa_cons (pe_lst pa_nil) pa_nil))) (blkOk_by (own := [("number", 3)]) (N := N_Reach_lost_with) (sc := defScope s_Reach_lost_with) (by decide +kernel)) (fun _ _ _ _ _ => pg_name (i := 3) sc_Reach_lost_with.nd rfl (Or.inl rfl)) (fun _ _ _ _ _ => pts_one ((pt_cmpR (op_notInK (K := K) rfl) (pv 3) (pv 2) (by rfl)))) (fun _ _ _ _ _ => (pv 3)))))), ?_⟩)
  obtain ⟨L, r, aw, away, rfl, h, haw, ha2, han, q⟩ := h
  have hw := h.wf
  refine ⟨_, rfl, r.a, _, _, rfl, h.obj, rfl, _, rfl, L, r, aw, away, rfl, h, haw, ha2, han, fun H1 l1 f1 h1 e1 => ?_⟩
  refine ⟨_, rfl, r.a, _, _, rfl, h1.obj, rfl, by decide, fun el hel => ?_⟩
  have s2 := same_new (o := .lst []) hel
  have h2 := h1.same s2
  refine ⟨L, r, el, [], rfl, h2, upd_same, by decide, (fun k hk => nomatch hk), fun H3 l3 f3 h3 e3 => ?_⟩
  have f13 : FrR r H1 H3 := (off_same s2).trans f3
  refine ⟨l3, rfl, ⟨_, SqL.of (off_le _ _ e3)⟩, fun D hD => ?_⟩
  have hl1 := off_le _ _ (f13 _ _ e1)
  refine lc_it walk_list (fun j H' => Same H3 H' ∧ H' D = some (.lst (iv (((reachedBy r.p r.m []).take j).filter fun k => !(reachedBy r.p r.m away).contains k)))) ⟨same_new hD, by rw [upd_same, List.take_zero] <;> rfl⟩ (fun j H' _ k => SqL.of (k.1 _ _ (off_le _ _ e3))) ?_ ?_
  · rintro j x H4 H5 hj ⟨k1, k2⟩ ⟨rfl, hx⟩
    rw [List.getElem?_map] at hx
    obtain ⟨k, hk, rfl⟩ := Option.map_eq_some_iff.mp hx
    have htk : ((reachedBy r.p r.m []).take (j + 1)).filter (fun k => !(reachedBy r.p r.m away).contains k) = ((reachedBy r.p r.m []).take j).filter (fun k => !(reachedBy r.p r.m away).contains k) ++ if (reachedBy r.p r.m away).contains k = true then [] else [k] := by
      rw [List.take_add_one, hk, List.filter_append, Option.toList, List.filter_cons, List.filter_nil]
      cases (reachedBy r.p r.m away).contains k <;> rfl
    refine ⟨rfl, _, rfl, _, rfl, l1, _, rfl, .inl (SqL.of (k1 _ _ hl1)), rfl, flat_ints _, _, rfl, ?_⟩
    show if (!inV (.int k) (iv (reachedBy r.p r.m away))) = true then _ else _
    rw [ints_in]
    refine iteNB (fun hc => ?_) (fun hc => ?_)
    · rw [if_neg (by rw [hc]; decide)] at htk
      refine ⟨_, rfl, _, k2, ?_, same_upd k1 hD, ?_⟩
      · unfold iv
        rw [List.length_map]
        refine Nat.lt_of_le_of_lt (List.length_filter_le _ _) (Nat.lt_of_le_of_lt (List.length_take_le' _ _) ?_)
        exact Nat.lt_of_le_of_lt (Nat.le_trans (le_of_lt (asc_nodup (asc_reached _ _ _)) fun k hk => reached_lt hk) hw.p10) (by decide)
      · rw [upd_same, htk]
        unfold iv
        rw [List.map_append] <;> rfl
    · rw [if_pos hc, List.append_nil] at htk
      rw [← htk] at k2
      exact ⟨k1, k2⟩
  · rintro H4 ⟨k1, k2⟩
    rw [show (iv (reachedBy r.p r.m [])).length = (reachedBy r.p r.m []).length from List.length_map _, List.take_length] at k2
    refine q H4 D ((f1.trans f13).trans (off_same k1)) (h3.same k1) (off_some.mpr ⟨fun z => ?_, k2⟩)
    obtain ⟨kvs, z1⟩ := h3.dk_some
    rw [List.mem_singleton.mp z, z1] at hD
    cases hD
abbrev N_Reach_size_lost : List Str := ["self", "away"]
abbrev P_Reach_size_lost : List Str := ["self", "away"]
theorem sc_Reach_size_lost : FnScope N_Reach_size_lost P_Reach_size_lost (defScope s_Reach_size_lost) := ⟨rfl, rfl, rfl, by decide +kernel, rfl, by decide +kernel, by decide +kernel⟩
def sp_size_lost (K : PySem.W.Frag) : Sp := fun vs H Q _ => ∃ (L : List Addr) (r : Rch) (aw : Addr) (away : List Nat), vs = [.ref r.a, .ref aw] ∧ ReachS K L H r ∧ H aw = some (.lst (iv away)) ∧ away.length ≤ 2 ∧ (∀ k ∈ away, k < r.p.parts.length) ∧
  ∀ H', FrR r H H' → ReachS K L H' r → Q (.int (sizeOf_ r.p (lost r.p r.m away) : Nat)) H'
theorem lost_lt {p : Prog} {m : Nat} {away : List Nat} {k : Nat} (h : k ∈ lost p m away) : k < p.parts.length := reached_lt (mem_lost.mp h).1
theorem lost_few {p : Prog} (hw : Wfp p) (m : Nat) (away : List Nat) : (lost p m away).length ≤ 10 := Nat.le_trans (le_of_lt (asc_nodup (asc_lost p m away)) fun k hk => lost_lt hk) hw.p10
theorem ok_Reach_size_lost (T : Tx K mg) (D_Reach_lost_with : Df P w K mg base CX0 (98) (He.ma K (He.ga K "Reach") "lost_with") P_Reach_lost_with (sp_lost_with K)) (D_Program_size_of : Df P w K mg base CX0 (1) (He.ma K (He.ga K "Program") "size_of") P_Program_size_of (sp_size_of K)) : Df P w K mg base CX0 (99) (He.ma K (He.ga K "Reach") "size_lost") P_Reach_size_lost (sp_size_lost K) := by
  refine df_mk (F_Reach_size_lost T) sc_Reach_size_lost (fun _ _ _ _ _ _ us hl => match us, hl with | [_, _], _ => rfl) (fun vs H Q E h => by obtain ⟨_, _, _, _, rfl, _⟩ := h; rfl) (fun cdv A outer s H vs Q E hr h => ⟨_, (pss_one (ps_ret (pm D_Program_size_of (c_Program T) (m_Program_size_of T)  hr (pe_fld (pv 0) rfl) (pa_cons (pm D_Reach_lost_with (c_Reach T) (m_Reach_lost_with T)  hr (pv 0) (pa_cons (pv 1) pa_nil)) pa_nil)))), ?_⟩)
  obtain ⟨L, r, aw, away, rfl, h, haw, ha2, han, q⟩ := h
  obtain ⟨dxP, lS, lP, lE, dN, sa, pl, p1, p2, p3, p4, p5, p6, p7⟩ := id h.prog
  refine ⟨_, rfl, r.a, _, r.dx, _, _, rfl, h.obj, c_Reach T, n_Reach_program T, rfl, r.pa, _, _, rfl, off_le _ _ p1, rfl, _, rfl, r.a, _, _, rfl, h.obj, rfl, _, rfl, L, r, aw, away, rfl, h, haw, ha2, han, fun H1 l f1 h1 e1 => ?_⟩
  exact ⟨r.pa, l, r.p, lost r.p r.m away, rfl, h1.prog.same off_le, h.wf, off_le _ _ e1, lost_few h.wf _ _, fun k hk => lost_lt hk, fun H2 s2 => q H2 (f1.trans (off_same s2)) (h1.same s2)⟩
abbrev N_closest_among : List Str := ["holders", "hangers", "holder", "other"]
abbrev P_closest_among : List Str := ["holders", "hangers"]
theorem sc_closest_among : FnScope N_closest_among P_closest_among (defScope s_closest_among) := ⟨rfl, rfl, rfl, by decide +kernel, rfl, by decide +kernel, by decide +kernel⟩
/-- the pairs of the dict of what is lost with each -/
def hgKv : List Nat → List Addr → List (Key × V)
  | k :: ks, a :: as => (Sum.inl (k : Int), .ref a) :: hgKv ks as
  | _, _ => []
theorem hg_len : ∀ {ks : List Nat} {as : List Addr}, as.length = ks.length → (hgKv ks as).length = ks.length
  | [], [], _ => rfl
  | _ :: _, [], h => nomatch h
  | [], _ :: _, h => nomatch h
  | k :: ks, a :: as, h => by
    show (hgKv ks as).length + 1 = _
    rw [hg_len (Nat.succ.inj h)] <;> rfl
theorem hg_app : ∀ {ks : List Nat} {as : List Addr} (k : Nat) (a : Addr), as.length = ks.length → hgKv (ks ++ [k]) (as ++ [a]) = hgKv ks as ++ [(Sum.inl (k : Int), .ref a)]
  | [], [], _, _, _ => rfl
  | _ :: _, [], _, _, h => nomatch h
  | [], _ :: _, _, _, h => nomatch h
  | k :: ks, a :: as, k', a', h => by
    show _ :: hgKv (ks ++ [k']) (as ++ [a']) = _
    rw [hg_app k' a' (Nat.succ.inj h)] <;> rfl
theorem hg_any (k : Nat) : ∀ {ks : List Nat} {as : List Addr}, as.length = ks.length → ((hgKv ks as).any fun kv => decide (kv.1 = (Sum.inl (k : Int) : Key))) = ks.contains k
  | [], [], _ => rfl
  | _ :: _, [], h => nomatch h
  | [], _ :: _, h => nomatch h
  | j :: ks, a :: as, h => by
    show ((Sum.inl (j : Int), V.ref a) :: hgKv ks as).any _ = (j :: ks).contains k
    rw [List.any_cons, hg_any k (Nat.succ.inj h), List.contains_cons]
    congr 1
    show decide _ = _
    rw [Bool.eq_iff_iff, decide_eq_true_eq, beq_iff_eq, key_int]
    exact eq_comm
theorem hg_val : ∀ {ks : List Nat} {as : List Addr} {i k : Nat} {a : Addr}, ks.Nodup → ks[i]? = some k → as[i]? = some a → valV (hgKv ks as) (Sum.inl (k : Int) : Key) = some (.ref a)
  | [], _, _, _, _, _, h, _ => nomatch h
  | _ :: _, [], _, _, _, _, _, h => nomatch h
  | j :: ks, a :: as, 0, _, _, _, rfl, rfl => valV_pos rfl
  | j :: ks, a :: as, i + 1, k, b, hn, h1, h2 => by
    rw [List.nodup_cons] at hn
    have h1 : ks[i]? = some k := h1
    show valV ((Sum.inl (j : Int), V.ref a) :: hgKv ks as) _ = _
    rw [valV_neg (fun z => hn.1 (by rw [show j = k from key_int.mp z]; exact List.mem_of_getElem? h1))]
    exact hg_val hn.2 h1 h2
/-- a dict that tells of each of these parts what is lost with it -/
def HangAt (H : Hp) (d : Addr) (p : Prog) (ks : List Nat) : Prop := ∃ as, H d = some (.dK (hgKv ks as)) ∧ AtAll (fun a (k : Nat) => H a = some (.lst (iv (lost p 1 [k])))) as ks
theorem HangAt.same {H H' : Hp} (s : Same H H') {d : Addr} {p : Prog} {ks : List Nat} (h : HangAt H d p ks) : HangAt H' d p ks := by
  obtain ⟨as, h1, h2⟩ := h
  exact ⟨as, s _ _ h1, h2.mono fun _ _ e => s _ _ e⟩
theorem HangAt.get {H : Hp} {d : Addr} {p : Prog} {ks : List Nat} (h : HangAt H d p ks) (hn : ks.Nodup) {k : Nat} (hk : k ∈ ks) : ∃ a, DGet H d (.int k) (some (.ref a)) ∧ H a = some (.lst (iv (lost p 1 [k]))) := by
  obtain ⟨as, h1, h2⟩ := h
  obtain ⟨i, hi⟩ := List.getElem?_of_mem hk
  obtain ⟨a, ha, e⟩ := h2.at_ hi
  refine ⟨a, ?_, e⟩
  rw [← hg_val hn hi ha]
  exact DGet.k (k := Sum.inl (k : Int)) h1
def optV : Option Nat → V
  | none => .non
  | some k => .int k
def sp_closest_among : Sp := fun vs H Q _ => ∃ (hl hd : Addr) (p : Prog) (hs W : List Nat), vs = [.ref hl, .ref hd] ∧ H hl = some (.lst (iv hs)) ∧ HangAt H hd p W ∧ W.Nodup ∧ (∀ h ∈ hs, h ∈ W) ∧ hs.length ≤ 10 ∧
  ∀ H', Same H H' → Q (optV (hs.find? fun h => hs.all fun o => (lost p 1 [o]).contains h)) H'
theorem ok_closest_among (T : Tx K mg) : Df P w K mg base CX0 (1) (He.ga K "closest_among") P_closest_among sp_closest_among := by
  refine df_mk (F_closest_among T) sc_closest_among (fun _ _ _ _ _ _ us hl => match us, hl with | [_, _], _ => rfl) (fun vs H Q E h => by obtain ⟨_, _, _, _, _, rfl, _⟩ := h; rfl) (fun cdv A outer s H vs Q E hr h => ⟨_, (pss_cons (ps_for PassesOwn.never rfl (pi_list (pv 0)) (pg_name (i := 2) sc_closest_among.nd rfl (Or.inr rfl)) (pss_one (ps_if (pt_val (pe_callB (cr_all rfl) (by rfl) (b_all T) (by decide +kernel) (pa_cons (pe_lc rfl sc_closest_among.nd (own := [("other", 3)]) (pi_list (pv 0)) (blkOk_by (own := [("other", 3)]) (N := N_closest_among) (sc := defScope s_closest_among) (by decide +kernel)) (fun _ _ _ _ _ => pg_name (i := 3) sc_closest_among.nd rfl (Or.inl rfl)) (fun _ _ _ _ _ => pts_nil) (fun _ _ _ _ _ => (pe_cmpR (op_inK (K := K) rfl) (pv 2) (pe_dget (hu_of hr) (pv 1) (pv 3) (fun _ _ => rfl)) (by rfl)))) pa_nil))) (pss_one (ps_ret (pv 2))) pss_nil))) (pss_one (ps_ret pe_non))), ?_⟩)
  obtain ⟨hl, hd, p, hs, W, rfl, e1, e2, hn, hW, h10, q⟩ := h
  refine ⟨_, rfl, hl, rfl, ⟨_, SqL.of e1⟩, ?_⟩
  have hil : (iv hs).length = hs.length := List.length_map _
  refine for_it walk_list (fun i σ H' => ∃ (x : Option V), σ = [some (.ref hl), some (.ref hd), x, none] ∧ Same H H' ∧ hs.find? (fun h => hs.all fun o => (lost p 1 [o]).contains h) = (hs.drop i).find? (fun h => hs.all fun o => (lost p 1 [o]).contains h))
    ⟨none, rfl, Same.refl _, rfl⟩ (fun i σ H' _ ⟨_, _, f, _⟩ => SqL.of (f _ _ e1)) ?_ ?_
  · rintro i x σ H1 H2 hi ⟨y, rfl, f1, hf⟩ ⟨rfl, hx⟩
    rw [List.getElem?_map] at hx
    obtain ⟨k, hk, rfl⟩ := Option.map_eq_some_iff.mp hx
    rw [drop_get hk, List.find?_cons] at hf
    refine ⟨_, rfl, hl, rfl, ⟨_, SqL.of (f1 _ _ e1)⟩, fun D hD => ?_⟩
    refine lc_it walk_list (fun j H' => Same H2 H' ∧ H' D = some (.lst (((hs.take j).map fun o => (lost p 1 [o]).contains k).map V.bl))) ⟨same_new hD, upd_same⟩ (fun j H' _ h => SqL.of (h.1 _ _ (f1 _ _ e1))) ?_ ?_
    · rintro j x H3 H4 hj ⟨k1, k2⟩ ⟨rfl, hx⟩
      rw [List.getElem?_map] at hx
      obtain ⟨o, ho, rfl⟩ := Option.map_eq_some_iff.mp hx
      obtain ⟨a, hDG, ha⟩ := (e2.same (f1.trans k1)).get hn (hW o (List.mem_of_getElem? ho))
      refine ⟨rfl, _, rfl, _, rfl, _, rfl, hd, _, rfl, hDG, a, _, rfl, .inl (SqL.of ha), rfl, flat_ints _, _, k2, ?_, same_upd k1 hD, ?_⟩
      · rw [List.length_map, List.length_map, List.length_take]
        exact Nat.lt_of_le_of_lt (by omega : _ ≤ 10) (by decide)
      · rw [upd_same, List.take_add_one, ho, List.map_append, List.map_append]
        show some (HO.lst (_ ++ [V.bl (inV (.int k) (iv (lost p 1 [o])))])) = _
        rw [ints_in] <;> rfl
    · rintro H3 ⟨k1, k2⟩
      rw [hil, List.take_length] at k2
      refine ⟨D, _, rfl, SqL.of k2, _, rfl, ?_⟩
      have hall : ((hs.map fun o => (lost p 1 [o]).contains k).all id) = hs.all fun o => (lost p 1 [o]).contains k := by
        rw [List.all_map] <;> rfl
      rw [hall]
      refine iteB (fun hc => ?_) (fun hc => ?_)
      · rw [hc] at hf
        have := q H3 (f1.trans k1)
        rw [hf] at this
        exact ⟨_, rfl, this⟩
      · rw [hc] at hf
        exact ⟨_, rfl, f1.trans k1, hf⟩
  · rintro σ H1 ⟨y, rfl, f1, hf⟩
    rw [hil, List.drop_length] at hf
    have := q H1 f1
    rw [hf] at this
    exact this
abbrev N_closest_of_all : List Str := ["reach", "whole", "hangers", "number", "closest", "holders", "other"]
abbrev P_closest_of_all : List Str := ["reach"]
theorem sc_closest_of_all : FnScope N_closest_of_all P_closest_of_all (defScope s_closest_of_all) := ⟨rfl, rfl, rfl, by decide +kernel, rfl, by decide +kernel, by decide +kernel⟩
/-- the pairs of the dict of the closest -/
def clKv (p : Prog) (ks : List Nat) : List (Key × V) := ks.map fun (k : Nat) => (Sum.inl (k : Int), optV (closest p k))
def sp_closest_of_all (K : PySem.W.Frag) : Sp := fun vs H Q _ => ∃ (L : List Addr) (r : Rch), vs = [.ref r.a] ∧ ReachS K L H r ∧ r.m = 1 ∧ ∀ H' d, FrR r H H' → ReachS K (d :: L) H' r → H d = none → H' d = some (.dK (clKv r.p (reachedBy r.p 1 []))) → Q (.ref d) H'
theorem ok_closest_of_all (T : Tx K mg) (D_Reach_come_to : Df P w K mg base CX0 (97) (He.ma K (He.ga K "Reach") "come_to") P_Reach_come_to (sp_come_to K)) (D_Reach_lost_with : Df P w K mg base CX0 (98) (He.ma K (He.ga K "Reach") "lost_with") P_Reach_lost_with (sp_lost_with K)) (D_closest_among : Df P w K mg base CX0 (1) (He.ga K "closest_among") P_closest_among sp_closest_among) : Df P w K mg base CX0 (99) (He.ga K "closest_of_all") P_closest_of_all (sp_closest_of_all K) := by
  refine df_mk (F_closest_of_all T) sc_closest_of_all (fun _ _ _ _ _ _ us hl => match us, hl with | [_], _ => rfl) (fun vs H Q E h => by obtain ⟨_, _, rfl, _⟩ := h; rfl) (fun cdv A outer s H vs Q E hr h => ⟨_, (pss_cons (ps_set (i := 1) sc_closest_of_all.nd rfl (Or.inl rfl) (pm D_Reach_come_to (c_Reach T) (m_Reach_come_to T)  hr (pv 0) (pa_cons (pe_lst pa_nil) pa_nil))) (pss_cons (ps_set (i := 2) sc_closest_of_all.nd rfl (Or.inr rfl) pe_dnewK) (pss_cons (ps_for PassesOwn.never rfl (pi_list (pv 1)) (pg_name (i := 3) sc_closest_of_all.nd rfl (Or.inr rfl)) (pss_one (ps_dput (hu_of hr) (pv 2) (pv 3) (pm D_Reach_lost_with (c_Reach T) (m_Reach_lost_with T)  hr (pv 0) (pa_cons (pe_lst (pa_cons (pv 3) pa_nil)) pa_nil)) rfl))) (pss_cons (ps_set (i := 4) sc_closest_of_all.nd rfl (Or.inl rfl) pe_dnewK) (pss_cons (ps_for PassesOwn.never rfl (pi_list (pv 1)) (pg_name (i := 3) sc_closest_of_all.nd rfl (Or.inr rfl)) (pss_cons (ps_setLc (i := 5) rfl sc_closest_of_all.nd rfl rfl (sw_true rfl rfl rfl (by decide +kernel)) (own := [("other", 6)]) (pi_list (pv 1)) (blkOk_by (own := [("other", 6)]) (N := N_closest_of_all) (sc := defScope s_closest_of_all) (by decide +kernel)) (fun _ _ _ _ _ => pg_name (i := 6) sc_closest_of_all.nd rfl (Or.inl rfl)) (fun _ _ _ _ _ => pts_one ((PW.pt (pw_and (pt_cmpR op_ne (pv 6) (pv 3) (nomark _)) (pw_and1 (pt_cmpR (op_inK (K := K) rfl) (pv 3) (pe_dget (hu_of hr) (pv 2) (pv 6) (fun _ _ => rfl)) (by rfl))))))) (fun _ _ _ _ _ => (pv 6))) (pss_one (ps_dput (hu_of hr) (pv 4) (pv 3) (pf D_closest_among (g_closest_among T) hr (pa_cons (pv 5) (pa_cons (pv 2) pa_nil))) rfl)))) (pss_one (ps_ret (pv 4)))))))), ?_⟩)
  obtain ⟨L, r, rfl, h, hm, q⟩ := h
  have hw := h.wf
  refine ⟨_, rfl, r.a, _, _, rfl, h.obj, rfl, by decide, fun el hel => ?_⟩
  have s1 := same_new (o := .lst []) hel
  refine ⟨L, r, el, [], rfl, h.same s1, upd_same, by decide, (fun k hk => nomatch hk), fun H2 wl f2 h2 e2 => ?_⟩
  rw [hm] at e2
  have f02 : FrR r H H2 := (off_same s1).trans f2
  clear f2 s1 hel
  obtain ⟨W, hWd⟩ : ∃ W, W = reachedBy r.p 1 [] := ⟨_, rfl⟩
  rw [← hWd] at e2 q
  have hWa : W.Pairwise (· < ·) := by rw [hWd]; exact asc_reached _ _ _
  have hWn : W.Nodup := asc_nodup hWa
  have hWl : ∀ k ∈ W, k < r.p.parts.length := fun k hk => by rw [hWd] at hk; exact reached_lt hk
  have hW10 : W.length ≤ 10 := Nat.le_trans (le_of_lt hWn hWl) hw.p10
  have hil : (iv W).length = W.length := List.length_map _
  have htn : ∀ i k, W[i]? = some k → (W.take i).contains k = false := fun i k hk => by
    rw [← Bool.not_eq_true, List.contains_iff_mem]
    intro z
    obtain ⟨j, hj, hje⟩ := List.mem_iff_getElem.mp z
    rw [List.length_take] at hj
    rw [List.getElem_take] at hje
    obtain ⟨hil, hie⟩ := List.getElem?_eq_some_iff.mp hk
    have := (List.getElem_inj hWn).mp (hje.trans hie.symm)
    omega
  refine fun dh hdh => ?_
  have hdM : dh ∉ r.M := fun z => by
    obtain ⟨kvs, y⟩ := h2.dk_some
    rw [List.mem_singleton.mp z, y] at hdh
    cases hdh
  have h3 := h2.open_ (o := .dK []) hdh
  have f3 : Same (Off r.M H2) (Off (dh :: r.M) (upd H2 dh (.dK []))) := fun b o e => by
    obtain ⟨z1, z2⟩ := off_some.mp e
    have hb : b ≠ dh := ne_of_none z2 hdh
    exact off_some.mpr ⟨fun z => (List.mem_cons.mp z).elim hb z1, by rw [upd_ne hb]; exact z2⟩
  have d3 : upd H2 dh (.dK []) dh = some (.dK []) := upd_same
  generalize upd H2 dh (.dK []) = H3 at h3 f3 d3 ⊢
  refine ⟨_, rfl, wl, rfl, ⟨_, SqL.of (off_le _ _ (f3 _ _ e2))⟩, ?_⟩
  refine for_it walk_list (fun i σ H' => ∃ (x3 : Option V) (as : List Addr), σ = [some (.ref r.a), some (.ref wl), some (.ref dh), x3, none, none, none] ∧ Same (Off r.M H2) (Off (dh :: r.M) H') ∧ ReachS K (dh :: L) H' r ∧ H' dh = some (.dK (hgKv (W.take i) as)) ∧ AtAll (fun a (k : Nat) => Off (dh :: r.M) H' a = some (.lst (iv (lost r.p 1 [k])))) as (W.take i))
    ⟨none, [], rfl, f3, h3, d3, .nil⟩ (fun i σ H' _ ⟨_, _, _, f, _⟩ => SqL.of (off_le _ _ (f _ _ e2))) ?_ ?_
  · rintro i x σ H4 H5 hi ⟨y3, as, rfl, k1, k2, k3, k4⟩ ⟨rfl, hx⟩
    rw [List.getElem?_map] at hx
    obtain ⟨k, hk, rfl⟩ := Option.map_eq_some_iff.mp hx
    refine ⟨_, rfl, r.a, _, _, rfl, k2.obj, rfl, _, rfl, by show 1 ≤ sizeLine; decide, fun l hl => ?_⟩
    have s6 := same_new (o := .lst [V.int k]) hl
    refine ⟨dh :: L, r, l, [k], rfl, k2.same s6, upd_same, (by show 1 ≤ 2; decide), fun j hj => by rw [List.mem_singleton.mp hj]; exact hWl k (List.mem_of_getElem? hk), fun H7 lq f7 h7 e7 => ?_⟩
    rw [hm] at e7
    have f57 : FrR r H5 H7 := (off_same s6).trans f7
    have hd7 : H7 dh = some (.dK (hgKv (W.take i) as)) := off_le _ _ (f57 _ _ (off_some.mpr ⟨hdM, k3⟩))
    have g57 : Same (Off (dh :: r.M) H5) (Off (dh :: r.M) H7) := off_cons f57
    have hal := k4.len
    have hlen : (hgKv (W.take i) as).length < sizeLine := by
      rw [hg_len hal]
      exact Nat.lt_of_le_of_lt (List.length_take_le' _ _) (Nat.lt_of_le_of_lt hW10 (by decide))
    have hqd : lq ≠ dh := ne_kind (off_le _ _ e7) hd7 (by intro z; cases z)
    refine ⟨_, rfl, _, rfl, dh, _, rfl, DPut.k (k := Sum.inl (k : Int)) hd7 hlen, ?_⟩
    have hput : putK (hgKv (W.take i) as) (Sum.inl (k : Int)) (V.ref lq) = hgKv (W.take (i + 1)) (as ++ [lq]) := by
      unfold putK
      rw [hg_any k hal, htn i k hk, List.take_add_one, hk]
      show _ = hgKv (W.take i ++ [k]) (as ++ [lq])
      rw [hg_app k lq hal] <;> rfl
    rw [hput]
    have eo : Off (dh :: r.M) (upd H7 dh (.dK (hgKv (W.take (i + 1)) (as ++ [lq])))) = Off (dh :: r.M) H7 := off_upd (List.mem_cons_self ..)
    refine ⟨_, as ++ [lq], rfl, by rw [eo]; exact k1.trans g57, h7.put (List.mem_cons_self ..), upd_same, ?_⟩
    rw [eo, List.take_add_one, hk]
    refine (k4.mono fun a j e => g57 _ _ e).push (off_some.mpr ⟨fun z => ?_, off_le _ _ e7⟩)
    rcases List.mem_cons.mp z with z | z
    · exact hqd z
    · exact (off_some.mp e7).1 z
  · rintro σ H4 ⟨y3, as, rfl, k1, k2, k3, k4⟩
    rw [hil, List.take_length] at k3 k4
    have hang : HangAt H4 dh r.p W := ⟨as, k3, k4.mono fun _ _ e => off_le _ _ e⟩
    refine fun dc hdc => ?_
    have s5 := same_new (o := .dK []) hdc
    have ew := off_le _ _ (k1 _ _ e2)
    refine ⟨_, rfl, wl, rfl, ⟨_, SqL.of (s5 _ _ ew)⟩, ?_⟩
    refine for_it walk_list (fun i σ H' => ∃ (x3 x5 : Option V), σ = [some (.ref r.a), some (.ref wl), some (.ref dh), x3, some (.ref dc), x5, none] ∧ Same H4 H' ∧ H' dc = some (.dK (clKv r.p (W.take i))))
      ⟨y3, none, rfl, s5, upd_same⟩ (fun i σ H' _ ⟨_, _, _, f, _⟩ => SqL.of (f _ _ ew)) ?_ ?_
    · rintro i x σ H6 H7 hi ⟨z3, z5, rfl, g1, g2⟩ ⟨rfl, hx⟩
      rw [List.getElem?_map] at hx
      obtain ⟨k, hk, rfl⟩ := Option.map_eq_some_iff.mp hx
      refine ⟨_, rfl, wl, rfl, ⟨_, SqL.of (g1 _ _ ew)⟩, fun D hD => ?_⟩
      refine lc_it walk_list (fun j H' => Same H7 H' ∧ H' D = some (.lst (iv ((W.take j).filter fun o => decide (o ≠ k) && (lost r.p 1 [o]).contains k)))) ⟨same_new hD, upd_same⟩ (fun j H' _ h => SqL.of (h.1 _ _ (g1 _ _ ew))) ?_ ?_
      · rintro j x H8 H9 hj ⟨w1, w2⟩ ⟨rfl, hx⟩
        rw [List.getElem?_map] at hx
        obtain ⟨o, ho, rfl⟩ := Option.map_eq_some_iff.mp hx
        have htk : (W.take (j + 1)).filter (fun o => decide (o ≠ k) && (lost r.p 1 [o]).contains k) = (W.take j).filter (fun o => decide (o ≠ k) && (lost r.p 1 [o]).contains k) ++ if (decide (o ≠ k) && (lost r.p 1 [o]).contains k) = true then [o] else [] := by
          rw [List.take_add_one, ho, List.filter_append, Option.toList, List.filter_cons, List.filter_nil]
        refine ⟨rfl, _, rfl, _, rfl, rfl, _, rfl, ?_⟩
        refine iteN (fun hne => ?_) (fun hne => ?_)
        · have hne' : o ≠ k := fun z => hne (by rw [z])
          obtain ⟨a, hDG, ha⟩ := (hang.same (g1.trans w1)).get hWn (List.mem_of_getElem? ho)
          refine ⟨_, rfl, _, rfl, _, rfl, dh, _, rfl, hDG, a, _, rfl, .inl (SqL.of ha), rfl, flat_ints _, _, rfl, ?_⟩
          show if inV (.int k) (iv (lost r.p 1 [o])) = true then _ else _
          rw [ints_in]
          refine iteB (fun hc => ?_) (fun hc => ?_)
          · rw [if_pos (by rw [hc, decide_eq_true hne'] <;> rfl)] at htk
            refine ⟨_, rfl, _, w2, ?_, same_upd w1 hD, ?_⟩
            · unfold iv
              rw [List.length_map]
              exact Nat.lt_of_le_of_lt (List.length_filter_le _ _) (Nat.lt_of_le_of_lt (List.length_take_le' _ _) (Nat.lt_of_le_of_lt hW10 (by decide)))
            · rw [upd_same, htk]
              unfold iv
              rw [List.map_append] <;> rfl
          · rw [if_neg (by rw [hc, Bool.and_false]; decide), List.append_nil] at htk
            rw [← htk] at w2
            exact ⟨w1, w2⟩
        · have hne' : o = k := by
            injection hne with hne
            omega
          refine iteF ?_
          rw [if_neg (by rw [hne']; simp), List.append_nil] at htk
          rw [← htk] at w2
          exact ⟨w1, w2⟩
      · rintro H8 ⟨w1, w2⟩
        rw [hil, List.take_length] at w2
        have hhold : W.filter (fun o => decide (o ≠ k) && (lost r.p 1 [o]).contains k) = holders r.p k := by
          unfold holders
          rw [← hWd]
        rw [hhold] at w2
        have hsub : ∀ j ∈ holders r.p k, j ∈ W := fun j hj => by
          rw [hWd]
          exact (List.mem_filter.mp hj).1
        have hh10 : (holders r.p k).length ≤ 10 := by
          rw [← hhold]
          exact Nat.le_trans (List.length_filter_le _ _) hW10
        refine ⟨_, rfl, _, rfl, D, dh, r.p, holders r.p k, W, rfl, w2, hang.same (g1.trans w1), hWn, hsub, hh10, fun H9 s9 => ?_⟩
        have gdc := s9 _ _ (w1 _ _ g2)
        refine ⟨_, rfl, _, rfl, dc, _, rfl, DPut.k (k := Sum.inl (k : Int)) gdc ?_, ?_⟩
        · unfold clKv
          rw [List.length_map]
          exact Nat.lt_of_le_of_lt (List.length_take_le' _ _) (Nat.lt_of_le_of_lt hW10 (by decide))
        have hput : putK (clKv r.p (W.take i)) (Sum.inl (k : Int)) (optV ((holders r.p k).find? fun h => (holders r.p k).all fun o => (lost r.p 1 [o]).contains h)) = clKv r.p (W.take (i + 1)) := by
          have hany : ((clKv r.p (W.take i)).any fun kv => decide (kv.1 = (Sum.inl (k : Int) : Key))) = (W.take i).contains k := by
            unfold clKv
            rw [List.any_map, List.contains_eq_any_beq]
            congr 1
            funext x
            show decide ((Sum.inl (x : Int) : Key) = Sum.inl (k : Int)) = (k == x)
            rw [Bool.eq_iff_iff, decide_eq_true_eq, beq_iff_eq, key_int]
            exact eq_comm
          unfold putK
          rw [hany, htn i k hk, List.take_add_one, hk, ← closest_eq hw]
          unfold clKv
          rw [List.map_append] <;> rfl
        rw [hput]
        exact ⟨_, _, rfl, same_upd ((g1.trans w1).trans s9) hdc, upd_same⟩
    · rintro σ H6 ⟨z3, z5, rfl, g1, g2⟩
      rw [hil, List.take_length] at g2
      have f06 : FrR r H H6 := f02.trans (Same.trans k1 ((off_less fun b hb => List.mem_cons_of_mem _ hb).trans (off_same g1)))
      obtain ⟨kvs, hk⟩ := k2.dk_some
      have hdcH : H dc = none := by
        cases e : H dc with
        | none => rfl
        | some o =>
          have hdk : dc ≠ r.dk := fun z => by rw [z, hk] at hdc; cases hdc
          have hdh2 : dc ≠ dh := fun z => by rw [z, k3] at hdc; cases hdc
          have := off_le _ _ (k1 _ _ (f02 _ _ (off_some.mpr ⟨fun z => hdk (List.mem_singleton.mp z), e⟩)))
          rw [hdc] at this
          cases this
      refine ⟨_, rfl, q H6 dc f06 ?_ hdcH g2⟩
      have h5 := k2.open_ (o := .dK []) hdc
      have h6 : ReachS K (dc :: dh :: L) H6 r := by
        refine h5.via (fun b o e => ?_) ?_ ?_ h5.na h5.nk fun x hx => ?_
        · obtain ⟨z1, z2⟩ := off_some.mp e
          have hb : b ≠ dc := fun z => z1 (List.mem_append_left _ (by rw [z]; exact List.mem_cons_self ..))
          rw [upd_ne hb] at z2
          exact off_some.mpr ⟨z1, g1 _ _ z2⟩
        · rw [g1 _ _ k2.obj, upd_ne (ne_of_none k2.obj hdc), k2.obj]
        · rw [g1 _ _ hk, upd_ne (ne_of_none hk hdc), hk]
        · rcases List.mem_cons.mp hx with rfl | hx
          · exact ⟨_, g2⟩
          · exact (k2.live x hx).imp fun o e => g1 _ _ e
      exact h6.close fun x hx => by
        rcases List.mem_cons.mp hx with rfl | hx
        · exact List.mem_cons_self ..
        · exact List.mem_cons_of_mem _ (List.mem_cons_of_mem _ hx)
end
end Vf

set_option Elab.async false
set_option linter.all false
set_option maxRecDepth 100000
set_option maxHeartbeats 4000000
/-! The one form over the code. -/
namespace Vf
open PySem PySem.Spec PyProof.Rows L2
open VakepBase (Bytes word joined showNat)
open Vakepa (Piece Prog showPiece nameOf commas line showStmt)
section
variable {P : Program} {w : World} {K : PySem.W.Frag} {mg : Str → Option Value} {base : Heap}
theorem tx_app (a b : Bytes) : tx a ++ tx b = tx (a ++ b) := by
  show (⟨(a.map UInt8.toNat).toArray ++ (b.map UInt8.toNat).toArray⟩ : Str) = ⟨((a ++ b).map UInt8.toNat).toArray⟩
  rw [List.map_append, List.append_toArray]
theorem nat_text (n : Nat) (h : n ≤ 99) : (toString (n : Int) : Str) = tx (showNat n) := by
  have k : ((List.range 100).all fun n => decide ((toString ((n : Nat) : Int) : Str) = tx (showNat n))) = true := by decide +kernel
  exact of_decide_eq_true (List.all_eq_true.mp k n (List.mem_range.mpr (by omega)))
theorem join_sep (sep : Bytes) (l : List Bytes) : Txt.join (tx sep) (l.map tx) = tx (joined sep l) := by
  have e : l.map tx = (l.map fun b => b.map UInt8.toNat).map SX.S := by
    rw [List.map_map] <;> rfl
  have e0 : tx sep = SX.S (sep.map UInt8.toNat) := rfl
  rw [e, e0, SX.join_S]
  have : ∀ l : List Bytes, TL.joinL (sep.map UInt8.toNat) (l.map fun b => b.map UInt8.toNat) = (joined sep l).map UInt8.toNat := by
    intro l
    induction l with
    | nil => rfl
    | cons c r ih => cases r with
      | nil => rfl
      | cons d r =>
        show c.map UInt8.toNat ++ (sep.map UInt8.toNat ++ TL.joinL (sep.map UInt8.toNat) ((d :: r).map fun b => b.map UInt8.toNat)) = (c ++ sep ++ joined sep (d :: r)).map UInt8.toNat
        rw [ih, List.map_append, List.map_append, List.append_assoc]
  rw [this] <;> rfl
theorem svs (l : List Bytes) : l.map sv = (l.map tx).map V.str := by
  rw [List.map_map] <;> rfl
theorem len_sum (l : List Bytes) (m : Nat) (h : ∀ b ∈ l, b.length ≤ m) : ((l.map tx).map (·.length)).sum ≤ m * l.length := by
  induction l with
  | nil => exact Nat.zero_le _
  | cons a r ih =>
    have h1 := h a (List.mem_cons_self ..)
    have h2 := ih fun b hb => h b (List.mem_cons_of_mem _ hb)
    rw [List.map_cons, List.map_cons, List.sum_cons, List.length_cons, tx_len, Nat.mul_succ]
    omega
theorem W (s : String) (h : tx (word s) = Str.ofString s := by decide +kernel) : V.str (Str.ofString s) = V.str (tx (word s)) := by rw [h]
theorem XA (a b : Bytes) : V.str (tx a ++ tx b) = V.str (tx (a ++ b)) := by rw [tx_app]
theorem tl {a b : Bytes} (h : a.length + b.length ≤ 1000000) : (tx a).length + (tx b).length ≤ sizeLine := by
  rw [tx_len, tx_len]
  exact Nat.le_trans h (by decide)
abbrev N_setting_row : List Str := ["setting"]
abbrev P_setting_row : List Str := ["setting"]
theorem sc_setting_row : FnScope N_setting_row P_setting_row (defScope s_setting_row) := ⟨rfl, rfl, rfl, by decide +kernel, rfl, by decide +kernel, by decide +kernel⟩
def sp_setting_row (K : PySem.W.Frag) : Sp := fun vs H Q _ => ∃ (a : Addr) (s : BSet), vs = [.ref a] ∧ SetAt K H a s ∧ SetOk s ∧ Q (sv (settingText s)) H
theorem words_len {s : BSet} (hs : SetOk s) : (joined (word ", ") s.values).length ≤ 72 := by
  have hj := joined_len (word ", ") 16 s.values hs.2.2.2.2
  have e0 : (word ", ").length = 2 := by decide +kernel
  have h4 : s.values.length * (16 + (word ", ").length) ≤ 4 * 18 := by rw [e0]; exact Nat.mul_le_mul hs.2.2.1 (Nat.le_refl _)
  omega
theorem ok_setting_row (T : Tx K mg) : Df P w K mg base CX0 (1) (He.ga K "setting_row") P_setting_row (sp_setting_row K) := by
  refine df_mk (F_setting_row T) sc_setting_row (fun _ _ _ _ _ _ us hl => match us, hl with | [_], _ => rfl) (fun vs H Q E h => by obtain ⟨_, _, rfl, _⟩ := h; rfl) (fun cdv A outer s H vs Q E hr h => ⟨_, (pss_one (ps_ret (pe_op op_add_str (pe_op op_add_str (pe_op op_add_str (pe_op op_add_str pe_str (pe_fld (pv 0) rfl)) pe_str) (pe_join pe_str (pe_fld (pv 0) rfl))) pe_str))), ?_⟩)
  obtain ⟨a, s, rfl, ⟨dx, lw, e1, e2⟩, hs, q⟩ := h
  have hn := hs.1
  have hj := words_len hs
  have l1 : (word "set ").length = 4 := by decide +kernel
  have l2 : (word " : ").length = 3 := by decide +kernel
  have l3 : (word " ;").length = 2 := by decide +kernel
  refine ⟨_, rfl, a, _, dx, _, _, rfl, e1, c_Setting T, n_Setting_name T, rfl, tx (word "set "), tx s.name, W "set ", rfl, tl (by omega), ?_⟩
  refine ⟨tx (word "set " ++ s.name), tx (word " : "), XA _ _, W " : ", tl (by rw [List.length_append]; omega), ?_⟩
  refine ⟨⟨_, rfl⟩, _, rfl, a, _, dx, _, _, rfl, e1, c_Setting T, n_Setting_words T, rfl, tx (word ", "), lw, s.values.map tx, W ", ", rfl, .inl (SqL.of (by rw [← svs]; exact e2)), ?_, ?_⟩
  · have h1 := len_sum s.values 16 hs.2.2.2.2
    have h2 := hs.2.2.1
    have e0 : (tx (word ", ")).length = 2 := by decide +kernel
    rw [List.length_map, e0]
    omega
  rw [join_sep]
  refine ⟨tx (word "set " ++ s.name ++ word " : "), tx (joined (word ", ") s.values), XA _ _, rfl, tl (by rw [List.length_append, List.length_append]; omega), ?_⟩
  refine ⟨tx (word "set " ++ s.name ++ word " : " ++ joined (word ", ") s.values), tx (word " ;"), XA _ _, W " ;", tl (by rw [List.length_append, List.length_append, List.length_append]; omega), ?_⟩
  rw [tx_app]
  have e : word "set " ++ s.name ++ word " : " ++ joined (word ", ") s.values ++ word " ;" = settingText s := by
    unfold settingText commas
    simp only [List.append_assoc]
  rw [e]
  exact q
abbrev N_bracketed : List Str := ["body", "statement"]
abbrev P_bracketed : List Str := ["body"]
theorem sc_bracketed : FnScope N_bracketed P_bracketed (defScope s_bracketed) := ⟨rfl, rfl, rfl, by decide +kernel, rfl, by decide +kernel, by decide +kernel⟩
def sp_bracketed (q : Nat) (K : PySem.W.Frag) : Sp := fun vs H Q _ => ∃ (l : Addr) (p : Prog) (us : List V) (st : BStmt), vs = [.ref l] ∧ Wfp p ∧ q ≤ 3 ∧ H l = some (.lst us) ∧ SBodyAt K p H st us ∧ SGood p.sets p.parts.length q st ∧ scost st ≤ 5000 ∧ ∀ H', Same H H' → Q (sv (brackets p st)) H'
def sp_statement_form (q : Nat) (K : PySem.W.Frag) : Sp := fun vs H Q _ => ∃ (x : Addr) (p : Prog) (st : BStmt), vs = [.ref x] ∧ Wfp p ∧ q ≤ 3 ∧ HeadAt K p H st x ∧ SGood p.sets p.parts.length q st ∧ scost st ≤ 5000 ∧ ∀ H', Same H H' → Q (sv (formOf p st)) H'
theorem forms_head (p : Prog) : ∀ {st : BStmt}, st ≠ .done → forms p st = formOf p st :: forms p (restS st)
  | .done, h => absurd rfl h
  | .say _ _, _ => rfl
  | .call _ _, _ => rfl
  | .make _ _, _ => rfl
  | .when_ _ _ _ _, _ => rfl
theorem form_len {p : Prog} (hw : Wfp p) {q : Nat} {st : BStmt} (g : SGood p.sets p.parts.length q st) (hne : st ≠ .done) : (formOf p st).length + (showStmt p (restS st)).length ≤ 70 * scost st := by
  have h := show_len hw g
  rw [← forms_show, forms_head p hne] at h
  show _ ≤ _
  rw [show formOf p st :: forms p (restS st) ++ [word "}"] = formOf p st :: (forms p (restS st) ++ [word "}"]) from rfl, joined_cons _ _ app_ne, forms_show, List.length_append, List.length_append] at h
  omega
theorem forms_sum {p : Prog} (hw : Wfp p) : ∀ {q : Nat} {st : BStmt}, SGood p.sets p.parts.length q st → (((forms p st).map tx).map (·.length)).sum ≤ 70 * scost st
  | _, .done, _ => Nat.zero_le _
  | q, .say k r, g => by
    have h1 := forms_sum hw (q := q) (st := r) g.2
    have h2 := nat_few k g.1
    have e1 : (word "say ").length = 4 := by decide +kernel
    have e2 : (word " ;").length = 2 := by decide +kernel
    show (((formOf p (.say k r) :: forms p r).map tx).map (·.length)).sum ≤ 70 * (3 + scost r)
    rw [List.map_cons, List.map_cons, List.sum_cons, tx_len, formOf, List.length_append, List.length_append, e1, e2]
    omega
  | q, .call k r, g => by
    have h1 := forms_sum hw (q := q) (st := r) g.2
    have h2 := nameOf_len hw (k := k)
    have e1 : (word "call ").length = 5 := by decide +kernel
    have e2 : (word " ;").length = 2 := by decide +kernel
    show (((formOf p (.call k r) :: forms p r).map tx).map (·.length)).sum ≤ 70 * (3 + scost r)
    rw [List.map_cons, List.map_cons, List.sum_cons, tx_len, formOf, List.length_append, List.length_append, e1, e2]
    omega
  | q, .make ps r, g => by
    have h1 := forms_sum hw (q := q) (st := r) g.2.2
    have h2 := make_len hw g.1 g.2.1
    have e1 : (word "make ").length = 5 := by decide +kernel
    have e2 : (word " ;").length = 2 := by decide +kernel
    show (((formOf p (.make ps r) :: forms p r).map tx).map (·.length)).sum ≤ 70 * (1 + 2 * ps.length + scost r)
    rw [List.map_cons, List.map_cons, List.sum_cons, tx_len, formOf, List.length_append, List.length_append, e1, e2]
    omega
  | q, .when_ x v b r, g => by
    have h1 := forms_sum hw (q := q) (st := r) g.2.2.2
    have h5 := show_len hw g.2.2.1
    have h3 := valT_len hw (x := x) (v := v)
    have h4 : (showPiece p (.set x)).length ≤ 16 := by
      obtain ⟨⟨S, hS, _⟩, _⟩ := g
      show (((p.sets[x]?).map fun s => s.name).getD []).length ≤ 16
      rw [hS]
      exact (hw.sg S (List.mem_of_getElem? hS)).1
    have e1 : (word "when ").length = 5 := by decide +kernel
    have e2 : (word " is ").length = 4 := by decide +kernel
    have e3 : (word "{").length = 1 := by decide +kernel
    have e4 : (word " ").length = 1 := by decide +kernel
    show (((formOf p (.when_ x v b r) :: forms p r).map tx).map (·.length)).sum ≤ 70 * (5 + scost b + scost r)
    rw [List.map_cons, List.map_cons, List.sum_cons, tx_len, formOf, brackets]
    simp only [List.length_append, e1, e2, e3, e4]
    omega
theorem forms_count (p : Prog) : ∀ st : BStmt, (forms p st).length ≤ scost st
  | .done => Nat.zero_le _
  | .say k r => by
    have := forms_count p r
    show (forms p r).length + 1 ≤ 3 + scost r
    omega
  | .call k r => by
    have := forms_count p r
    show (forms p r).length + 1 ≤ 3 + scost r
    omega
  | .make ps r => by
    have := forms_count p r
    show (forms p r).length + 1 ≤ 1 + 2 * ps.length + scost r
    omega
  | .when_ x v b r => by
    have := forms_count p r
    show (forms p r).length + 1 ≤ 5 + scost b + scost r
    omega
theorem ok_bracketed (T : Tx K mg) {k q : Nat} (hk : 1 ≤ k) (D_statement_form : Df P w K mg base CX0 k (He.ga K "statement_form") P_statement_form (sp_statement_form q K)) : Df P w K mg base CX0 (k+1) (He.ga K "bracketed") P_bracketed (sp_bracketed q K) := by
  refine df_mk (F_bracketed T) sc_bracketed (fun _ _ _ _ _ _ us hl => match us, hl with | [_], _ => rfl) (fun vs H Q E h => by obtain ⟨_, _, _, _, rfl, _⟩ := h; rfl) (fun cdv A outer s H vs Q E hr h => ⟨_, (pss_one (ps_ret (pe_join pe_str (pe_op op_cat (pe_op op_cat (pe_lst (pa_cons pe_str pa_nil)) (pe_lc rfl sc_bracketed.nd (own := [("statement", 1)]) (pi_list (pv 0)) (blkOk_by (own := [("statement", 1)]) (N := N_bracketed) (sc := defScope s_bracketed) (by decide +kernel)) (fun _ _ _ _ _ => pg_name (i := 1) sc_bracketed.nd rfl (Or.inl rfl)) (fun _ _ _ _ _ => pts_nil) (fun _ _ _ _ _ => (pf D_statement_form (g_statement_form T) hr (pa_cons (pv 1) pa_nil))))) (pe_lst (pa_cons pe_str pa_nil)))))), ?_⟩)
  obtain ⟨l, p, us, st, rfl, hw, hq, hl, hb, hg, hc, q'⟩ := h
  have hfc := forms_count p st
  have hfs := forms_sum hw hg
  refine ⟨⟨_, rfl⟩, by show 1 ≤ sizeLine; decide, fun l1 hl1 => ?_⟩
  have s1 := same_new (o := .lst [V.str "{"]) hl1
  refine ⟨_, rfl, l, rfl, ⟨_, SqL.of (s1 _ _ hl)⟩, fun D hD => ?_⟩
  refine lc_it walk_list (fun j H' => ∃ (st' : BStmt) (fs : List Bytes), Same (upd H l1 (.lst [V.str "{"])) H' ∧ H' D = some (.lst (fs.map sv)) ∧ SBodyAt K p H st' (us.drop j) ∧ SGood p.sets p.parts.length q st' ∧ scost st' ≤ scost st ∧ forms p st = fs ++ forms p st' ∧ fs.length = j)
    ⟨st, [], same_new hD, upd_same, hb, hg, Nat.le_refl _, rfl, rfl⟩ (fun j H' _ ⟨_, _, k, _⟩ => SqL.of (k _ _ (s1 _ _ hl))) ?_ ?_
  · rintro j x H2 H3 hj ⟨st', fs, k1, k2, k3, k4, k5, k6, k7⟩ ⟨rfl, hx⟩
    rw [drop_get hx] at k3
    rcases body_head k3 with ⟨_, z⟩ | ⟨hne, a, ws, hus, hh, hr1⟩
    · exact nomatch z
    obtain ⟨rfl, rfl⟩ := List.cons.inj hus
    have hcp : scost (restS st') ≤ scost st' := by
      have : 1 + scost (restS st') ≤ scost st' := by
        cases st' with
        | done => exact absurd rfl hne
        | say k r => show 1 + scost r ≤ 3 + scost r; omega
        | call k r => show 1 + scost r ≤ 3 + scost r; omega
        | make ps r => show 1 + scost r ≤ 1 + 2 * ps.length + scost r; omega
        | when_ y v b r => show 1 + scost r ≤ 5 + scost b + scost r; omega
      omega
    refine ⟨rfl, _, rfl, a, p, st', rfl, hw, hq, (hh.same s1).same k1, k4, by omega, fun H4 s4 => ?_⟩
    rw [forms_head p hne] at k6
    refine ⟨_, s4 _ _ k2, ?_, restS st', fs ++ [formOf p st'], same_upd (k1.trans s4) hD, by rw [upd_same, List.map_append] <;> rfl, hr1, good_rest k4, by omega, by rw [k6, List.append_assoc] <;> rfl, by rw [List.length_append, k7] <;> rfl⟩
    rw [List.length_map, k7]
    have := congrArg List.length k6
    rw [List.length_append, List.length_cons] at this
    exact Nat.lt_of_le_of_lt (show j ≤ 5000 by omega) (by decide)
  · rintro H2 ⟨st', fs, k1, k2, k3, k4, k5, k6, k7⟩
    rw [List.drop_length] at k3
    rcases body_head k3 with ⟨z, _⟩ | ⟨_, a, ws, z, _⟩
    · subst z
      rw [show forms p .done = [] from rfl, List.append_nil] at k6
      rw [← k6] at k2
      have e1 := k1 _ _ (upd_same : upd H l1 (.lst [V.str "{"]) l1 = some (.lst [V.str "{"]))
      have fl : ((forms p st).map sv).length = (forms p st).length := List.length_map _
      refine ⟨l1, D, _, _, rfl, rfl, e1, k2, ?_, fun p1 hp1 => ?_⟩
      · rw [fl]
        show 1 + (forms p st).length ≤ sizeLine
        exact Nat.le_trans (show 1 + (forms p st).length ≤ 5001 by omega) (by decide)
      have s3 := same_new (o := .lst ([V.str "{"] ++ (forms p st).map sv)) hp1
      refine ⟨by show 1 ≤ sizeLine; decide, fun l3 hl3 => ?_⟩
      have s4 := s3.trans (same_new (o := .lst [V.str "}"]) hl3)
      have e4 := (same_new (o := .lst [V.str "}"]) hl3) _ _ (upd_same : upd H2 p1 (.lst ([V.str "{"] ++ (forms p st).map sv)) p1 = _)
      refine ⟨p1, l3, _, _, rfl, rfl, e4, upd_same, ?_, fun p2 hp2 => ?_⟩
      · rw [List.length_append, fl]
        show 1 + (forms p st).length + 1 ≤ sizeLine
        exact Nat.le_trans (show 1 + (forms p st).length + 1 ≤ 5002 by omega) (by decide)
      have s5 := s4.trans (same_new (o := .lst ([V.str "{"] ++ (forms p st).map sv ++ [V.str "}"])) hp2)
      have eL : ([V.str "{"] ++ (forms p st).map sv ++ [V.str "}"]) = (([word "{"] ++ forms p st ++ [word "}"]).map tx).map V.str := by
        have w1 : V.str (Str.ofString "{") = V.str (tx (word "{")) := W "{"
        have w2 : V.str (Str.ofString "}") = V.str (tx (word "}")) := W "}"
        rw [svs, show (V.str "{") = V.str (tx (word "{")) from w1, show (V.str "}") = V.str (tx (word "}")) from w2]
        simp only [List.map_append, List.map_cons, List.map_nil]
      refine ⟨tx (word " "), p2, ([word "{"] ++ forms p st ++ [word "}"]).map tx, W " ", rfl, .inl (SqL.of (by rw [upd_same, eL])), ?_, ?_⟩
      · have e0 : (tx (word " ")).length = 1 := by decide +kernel
        have e1 : (tx (word "{")).length = 1 := by decide +kernel
        have e2 : (tx (word "}")).length = 1 := by decide +kernel
        have hs : ((([word "{"] ++ forms p st ++ [word "}"]).map tx).map (·.length)).sum = 1 + (((forms p st).map tx).map (·.length)).sum + 1 := by
          rw [List.map_append, List.map_append, List.map_append, List.map_append, List.sum_append, List.sum_append]
          simp only [List.map_cons, List.map_nil, List.sum_cons, List.sum_nil, e1, e2, Nat.add_zero]
        rw [hs, List.length_map, e0, List.length_append, List.length_append]
        show _ + (1 + (forms p st).length + 1) * 1 ≤ 16777216
        omega
      · rw [join_sep, brackets_join]
        refine q' _ ?_
        exact (s1.trans k1).trans s5
    · exact nomatch z
end
end Vf

set_option Elab.async false
set_option linter.all false
set_option maxRecDepth 100000
set_option maxHeartbeats 4000000
/-! The one form: statements, parts, the whole. -/
namespace Vf
open PySem PySem.Spec PyProof.Rows L2
open VakepBase (Bytes word joined showNat)
open Vakepa (Piece Prog showPiece nameOf commas line showStmt)
section
variable {P : Program} {w : World} {K : PySem.W.Frag} {mg : Str → Option Value} {base : Heap}
theorem natT (n : Nat) (h : n ≤ 99) : V.str (toString (n : Int) : Str) = V.str (tx (showNat n)) := by rw [nat_text n h]
theorem log_few (n : Nat) (h : n ≤ 99) : (n : Int).natAbs.log2 < 1920 := by
  have : (n : Int).natAbs = n := Int.natAbs_natCast n
  rw [this]
  exact Nat.lt_of_le_of_lt (Nat.log2_le_self n) (by omega)
abbrev N_statement_form : List Str := ["statement"]
abbrev P_statement_form : List Str := ["statement"]
theorem sc_statement_form : FnScope N_statement_form P_statement_form (defScope s_statement_form) := ⟨rfl, rfl, rfl, by decide +kernel, rfl, by decide +kernel, by decide +kernel⟩
theorem ok_statement_form (T : Tx K mg) {k q : Nat} (hk : 1 ≤ k) (D_bracketed : Df P w K mg base CX0 k (He.ga K "bracketed") P_bracketed (sp_bracketed (q + 1) K)) : Df P w K mg base CX0 (k+1) (He.ga K "statement_form") P_statement_form (sp_statement_form q K) := by
  refine df_mk (F_statement_form T) sc_statement_form (fun _ _ _ _ _ _ us hl => match us, hl with | [_], _ => rfl) (fun vs H Q E h => by obtain ⟨_, _, _, rfl, _⟩ := h; rfl) (fun cdv A outer s H vs Q E hr h => ⟨_, (pss_cons (ps_if (pt_val (pe_callB call_isi (by rfl) (b_isinstance T) (by decide +kernel) (pa_cons (pv 0) (pa_cons (pgo (g_Say T)) pa_nil)))) (pss_one (ps_ret (pe_op op_add_str (pe_op op_add_str pe_str (pe_callTy call_str_int (by rfl) (b_str T) (by decide +kernel) (pa_cons (pe_fld (pv 0) rfl) pa_nil))) pe_str))) pss_nil) (pss_cons (ps_if (pt_val (pe_callB call_isi (by rfl) (b_isinstance T) (by decide +kernel) (pa_cons (pv 0) (pa_cons (pgo (g_Call T)) pa_nil)))) (pss_one (ps_ret (pe_op op_add_str (pe_op op_add_str pe_str (pe_fld (pv 0) rfl)) pe_str))) pss_nil) (pss_cons (ps_if (pt_val (pe_callB call_isi (by rfl) (b_isinstance T) (by decide +kernel) (pa_cons (pv 0) (pa_cons (pgo (g_Make T)) pa_nil)))) (pss_one (ps_ret (pe_op op_add_str (pe_op op_add_str pe_str (pe_join pe_str (pe_fld (pv 0) rfl))) pe_str))) pss_nil) (pss_one (ps_ret (pe_op op_add_str (pe_op op_add_str (pe_op op_add_str (pe_op op_add_str (pe_op op_add_str pe_str (pe_fld (pv 0) rfl)) pe_str) (pe_fld (pv 0) rfl)) pe_str) (pf D_bracketed (g_bracketed T) hr (pa_cons (pe_fld (pv 0) rfl) pa_nil)))))))), ?_⟩)
  obtain ⟨x, p, st, rfl, hw, hq, hh, hg, hc, q'⟩ := h
  have l1 : (word " ;").length = 2 := by decide +kernel
  cases st with
  | done => exact hh.elim
  | say k b =>
    obtain ⟨dx, hx⟩ := hh
    have hi := is_stmt T "Say" (by decide +kernel) (by decide +kernel) hx (c_Say T)
    have l2 : (word "say ").length = 4 := by decide +kernel
    have l3 := nat_few k hg.1
    refine ⟨_, rfl, _, _, _, _, _, rfl, .own _, hi.1, hi.2, _, rfl, iteD (fun _ => ?_) (fun z => absurd rfl z)⟩
    refine ⟨_, rfl, x, _, dx, _, _, rfl, hx, c_Say T, n_Say_amount T, rfl, _, rfl, log_few k hg.1, tx (word "say "), tx (showNat k), W "say ", natT k hg.1, tl (by omega), ?_⟩
    refine ⟨tx (word "say " ++ showNat k), tx (word " ;"), XA _ _, W " ;", tl (by rw [List.length_append]; omega), ?_⟩
    rw [tx_app, List.append_assoc]
    exact q' H (Same.refl _)
  | call k b =>
    obtain ⟨dx, hx⟩ := hh
    have hi := is_stmt T "Say" (by decide +kernel) (by decide +kernel) hx (c_Call T)
    have hi2 := is_stmt T "Call" (by decide +kernel) (by decide +kernel) hx (c_Call T)
    have l2 : (word "call ").length = 5 := by decide +kernel
    have l3 := nameOf_len hw (k := k)
    refine ⟨_, rfl, _, _, _, _, _, rfl, .own _, hi.1, hi.2, _, rfl, iteD (fun z => absurd z (by decide +kernel)) (fun _ => ?_)⟩
    refine ⟨_, rfl, _, _, _, _, _, rfl, .own _, hi2.1, hi2.2, _, rfl, iteD (fun _ => ?_) (fun z => absurd rfl z)⟩
    refine ⟨_, rfl, x, _, dx, _, _, rfl, hx, c_Call T, n_Call_name T, rfl, tx (word "call "), tx (nameOf p k), W "call ", rfl, tl (by omega), ?_⟩
    refine ⟨tx (word "call " ++ nameOf p k), tx (word " ;"), XA _ _, W " ;", tl (by rw [List.length_append]; omega), ?_⟩
    rw [tx_app, List.append_assoc]
    exact q' H (Same.refl _)
  | make ps b =>
    obtain ⟨dx, l, hx, hl⟩ := hh
    have hi := is_stmt T "Say" (by decide +kernel) (by decide +kernel) hx (c_Make T)
    have hi2 := is_stmt T "Call" (by decide +kernel) (by decide +kernel) hx (c_Make T)
    have hi3 := is_stmt T "Make" (by decide +kernel) (by decide +kernel) hx (c_Make T)
    have l2 : (word "make ").length = 5 := by decide +kernel
    have l3 := make_len hw hg.1 hg.2.1
    refine ⟨_, rfl, _, _, _, _, _, rfl, .own _, hi.1, hi.2, _, rfl, iteD (fun z => absurd z (by decide +kernel)) (fun _ => ?_)⟩
    refine ⟨_, rfl, _, _, _, _, _, rfl, .own _, hi2.1, hi2.2, _, rfl, iteD (fun z => absurd z (by decide +kernel)) (fun _ => ?_)⟩
    refine ⟨_, rfl, _, _, _, _, _, rfl, .own _, hi3.1, hi3.2, _, rfl, iteD (fun _ => ?_) (fun z => absurd rfl z)⟩
    have hps : ps.map (fun q => sv (showPiece p q)) = ((ps.map (showPiece p)).map tx).map V.str := by
      rw [List.map_map, List.map_map] <;> rfl
    refine ⟨⟨_, rfl⟩, _, rfl, x, _, dx, _, _, rfl, hx, c_Make T, n_Make_pieces T, rfl, tx (word " + "), l, (ps.map (showPiece p)).map tx, W " + ", rfl, .inl (SqL.of (by rw [← hps]; exact hl)), ?_, ?_⟩
    · have h1 := len_sum (ps.map (showPiece p)) 16 fun b hb => by
        obtain ⟨q, hq, rfl⟩ := List.mem_map.mp hb
        exact piece_len16 hw (hg.2.1 q hq)
      have e0 : (tx (word " + ")).length = 3 := by decide +kernel
      have := hg.1
      rw [List.length_map, e0, List.length_map]
      rw [List.length_map] at h1
      omega
    rw [join_sep]
    refine ⟨tx (word "make "), tx (joined (word " + ") (ps.map (showPiece p))), W "make ", rfl, tl (by omega), ?_⟩
    refine ⟨tx (word "make " ++ joined (word " + ") (ps.map (showPiece p))), tx (word " ;"), XA _ _, W " ;", tl (by rw [List.length_append]; omega), ?_⟩
    rw [tx_app, List.append_assoc]
    exact q' H (Same.refl _)
  | when_ y v c b =>
    obtain ⟨dx, l, us, hx, hl, hb⟩ := hh
    obtain ⟨⟨S, hS, hv⟩, hq3, hgc, hgb⟩ := id hg
    have hi := is_stmt T "Say" (by decide +kernel) (by decide +kernel) hx (c_When T)
    have hi2 := is_stmt T "Call" (by decide +kernel) (by decide +kernel) hx (c_When T)
    have hi3 := is_stmt T "Make" (by decide +kernel) (by decide +kernel) hx (c_When T)
    have l2 : (word "when ").length = 5 := by decide +kernel
    have l3 : (word " is ").length = 4 := by decide +kernel
    have l4 : (word " ").length = 1 := by decide +kernel
    have l5 : (showPiece p (.set y)).length ≤ 16 := by
      show (((p.sets[y]?).map fun s => s.name).getD []).length ≤ 16
      rw [hS]
      exact (hw.sg S (List.mem_of_getElem? hS)).1
    have l6 := valT_len hw (x := y) (v := v)
    have hcs : scost (.when_ y v c b) = 5 + scost c + scost b := rfl
    have l7 := show_len hw hgc
    have l8 : (brackets p c).length = 2 + (showStmt p c).length := by
      unfold brackets
      have e3 : (word "{").length = 1 := by decide +kernel
      rw [List.length_append, List.length_append, e3, l4]
      omega
    refine ⟨_, rfl, _, _, _, _, _, rfl, .own _, hi.1, hi.2, _, rfl, iteD (fun z => absurd z (by decide +kernel)) (fun _ => ?_)⟩
    refine ⟨_, rfl, _, _, _, _, _, rfl, .own _, hi2.1, hi2.2, _, rfl, iteD (fun z => absurd z (by decide +kernel)) (fun _ => ?_)⟩
    refine ⟨_, rfl, _, _, _, _, _, rfl, .own _, hi3.1, hi3.2, _, rfl, iteD (fun z => absurd z (by decide +kernel)) (fun _ => ?_)⟩
    refine ⟨_, rfl, x, _, dx, _, _, rfl, hx, c_When T, n_When_setting T, rfl, tx (word "when "), tx (showPiece p (.set y)), W "when ", rfl, tl (by omega), ?_⟩
    refine ⟨tx (word "when " ++ showPiece p (.set y)), tx (word " is "), XA _ _, W " is ", tl (by rw [List.length_append]; omega), ?_⟩
    refine ⟨_, rfl, x, _, dx, _, _, rfl, hx, c_When T, n_When_word T, rfl, tx (word "when " ++ showPiece p (.set y) ++ word " is "), tx (valT p y v), XA _ _, rfl, tl (by simp only [List.length_append]; omega), ?_⟩
    refine ⟨tx (word "when " ++ showPiece p (.set y) ++ word " is " ++ valT p y v), tx (word " "), XA _ _, W " ", tl (by simp only [List.length_append]; omega), ?_⟩
    refine ⟨_, rfl, x, _, dx, _, _, rfl, hx, c_When T, n_When_body T, rfl, l, p, us, c, rfl, hw, by omega, hl, hb, hgc, by omega, fun H2 s2 => ?_⟩
    refine ⟨tx (word "when " ++ showPiece p (.set y) ++ word " is " ++ valT p y v ++ word " "), tx (brackets p c), XA _ _, rfl, tl (by simp only [List.length_append]; omega), ?_⟩
    rw [tx_app]
    have e : word "when " ++ showPiece p (.set y) ++ word " is " ++ valT p y v ++ word " " ++ brackets p c = formOf p (.when_ y v c b) := by
      rw [formOf]
      simp only [List.append_assoc]
    rw [e]
    exact q' H2 s2
theorem no_form (T : Tx K mg) : Df P w K mg base CX0 1 (He.ga K "bracketed") P_bracketed (sp_bracketed 4 K) :=
  df_mk (k := 0) (F_bracketed T) sc_bracketed (fun _ _ _ _ _ _ us hl => match us, hl with | [_], _ => rfl) (fun vs H Q E h => by obtain ⟨_, _, _, _, rfl, _⟩ := h; rfl)
    fun cdv A outer s H vs Q E hr h => by
      obtain ⟨_, _, _, _, _, _, h1, _⟩ := h
      exact absurd h1 (by decide)
theorem ok_brackets0 (T : Tx K mg) : Df P w K mg base CX0 9 (He.ga K "bracketed") P_bracketed (sp_bracketed 0 K) := by
  have turn : ∀ k q : Nat, 1 ≤ k → Df P w K mg base CX0 k (He.ga K "bracketed") P_bracketed (sp_bracketed (q + 1) K) → Df P w K mg base CX0 (k + 2) (He.ga K "bracketed") P_bracketed (sp_bracketed q K) := fun k q hk D =>
    ok_bracketed T (by omega) (ok_statement_form T hk D)
  have b3 := turn 1 3 (by decide) (no_form T)
  have b2 := turn 3 2 (by decide) b3
  have b1 := turn 5 1 (by decide) b2
  exact turn 7 0 (by decide) b1
abbrev N_part_row : List Str := ["part"]
abbrev P_part_row : List Str := ["part"]
theorem sc_part_row : FnScope N_part_row P_part_row (defScope s_part_row) := ⟨rfl, rfl, rfl, by decide +kernel, rfl, by decide +kernel, by decide +kernel⟩
def sp_part_row (K : PySem.W.Frag) : Sp := fun vs H Q _ => ∃ (a : Addr) (p : Prog) (x : BPart), vs = [.ref a] ∧ Wfp p ∧ PAt K p H a x ∧ x ∈ p.parts ∧ ∀ H', Same H H' → Q (sv (partText p x)) H'
theorem ok_part_row (T : Tx K mg) (D_bracketed : Df P w K mg base CX0 9 (He.ga K "bracketed") P_bracketed (sp_bracketed 0 K)) : Df P w K mg base CX0 (10) (He.ga K "part_row") P_part_row (sp_part_row K) := by
  refine df_mk (F_part_row T) sc_part_row (fun _ _ _ _ _ _ us hl => match us, hl with | [_], _ => rfl) (fun vs H Q E h => by obtain ⟨_, _, _, rfl, _⟩ := h; rfl) (fun cdv A outer s H vs Q E hr h => ⟨_, (pss_one (ps_ret (pe_op op_add_str (pe_op op_add_str (pe_op op_add_str (pe_op op_add_str (pe_op op_add_str pe_str (pe_fld (pv 0) rfl)) pe_str) (pe_callTy call_str_int (by rfl) (b_str T) (by decide +kernel) (pa_cons (pe_fld (pv 0) rfl) pa_nil))) pe_str) (pf D_bracketed (g_bracketed T) hr (pa_cons (pe_fld (pv 0) rfl) pa_nil))))), ?_⟩)
  obtain ⟨a, p, x, rfl, hw, ⟨dx, l, us, e1, e2, e3⟩, hx, q'⟩ := h
  obtain ⟨g1, g2, g3, g4, g5⟩ := hw.pg x hx
  have l1 : (word "part ").length = 5 := by decide +kernel
  have l2 : (word " size ").length = 6 := by decide +kernel
  have l3 : (word " ").length = 1 := by decide +kernel
  have l4 := nat_few x.size g3
  have l7 := show_len hw g4
  have l8 : (brackets p x.body).length = 2 + (showStmt p x.body).length := by
    unfold brackets
    have e3 : (word "{").length = 1 := by decide +kernel
    rw [List.length_append, List.length_append, e3, l3]
    omega
  refine ⟨_, rfl, a, _, dx, _, _, rfl, e1, c_Part T, n_Part_name T, rfl, tx (word "part "), tx x.name, W "part ", rfl, tl (by omega), ?_⟩
  refine ⟨tx (word "part " ++ x.name), tx (word " size "), XA _ _, W " size ", tl (by simp only [List.length_append]; omega), ?_⟩
  refine ⟨_, rfl, a, _, dx, _, _, rfl, e1, c_Part T, n_Part_size T, rfl, _, rfl, log_few _ g3, tx (word "part " ++ x.name ++ word " size "), tx (showNat x.size), XA _ _, natT _ g3, tl (by simp only [List.length_append]; omega), ?_⟩
  refine ⟨tx (word "part " ++ x.name ++ word " size " ++ showNat x.size), tx (word " "), XA _ _, W " ", tl (by simp only [List.length_append]; omega), ?_⟩
  refine ⟨_, rfl, a, _, dx, _, _, rfl, e1, c_Part T, n_Part_body T, rfl, l, p, us, x.body, rfl, hw, by decide, e2, e3, g4, g5, fun H2 s2 => ?_⟩
  refine ⟨tx (word "part " ++ x.name ++ word " size " ++ showNat x.size ++ word " "), tx (brackets p x.body), XA _ _, rfl, tl (by simp only [List.length_append]; omega), ?_⟩
  rw [tx_app]
  have e : word "part " ++ x.name ++ word " size " ++ showNat x.size ++ word " " ++ brackets p x.body = partText p x := by
    unfold partText
    simp only [List.append_assoc]
  rw [e]
  exact q' H2 s2
theorem row_len {p : Prog} (hw : Wfp p) : ∀ b ∈ rowsText p, b.length ≤ 360000 := by
  intro b hb
  unfold rowsText at hb
  have l1 : (word "set ").length = 4 := by decide +kernel
  have l2 : (word " : ").length = 3 := by decide +kernel
  have l3 : (word " ;").length = 2 := by decide +kernel
  have l4 : (word "part ").length = 5 := by decide +kernel
  have l5 : (word " size ").length = 6 := by decide +kernel
  have l6 : (word " ").length = 1 := by decide +kernel
  have l7 : (word "start ").length = 6 := by decide +kernel
  have l8 : (word "{").length = 1 := by decide +kernel
  rcases List.mem_append.mp hb with hb | hb
  · obtain ⟨s, hs, rfl⟩ := List.mem_map.mp hb
    have h := hw.sg s hs
    have hj := words_len h
    have hn := h.1
    unfold settingText commas
    simp only [List.length_append, l1, l2, l3]
    omega
  · rcases List.mem_append.mp hb with hb | hb
    · obtain ⟨x, hx, rfl⟩ := List.mem_map.mp hb
      obtain ⟨g1, g2, g3, g4, g5⟩ := hw.pg x hx
      have h4 := nat_few x.size g3
      have h7 := show_len hw g4
      unfold partText brackets
      simp only [List.length_append, l4, l5, l6, l8]
      omega
    · rw [List.mem_singleton] at hb
      subst hb
      have hj := joined_len (word ", ") 16 (p.starts.map (nameOf p)) fun b hb => by
        obtain ⟨k, _, rfl⟩ := List.mem_map.mp hb
        exact nameOf_len hw
      have e0 : (word ", ").length = 2 := by decide +kernel
      have h4 : (p.starts.map (nameOf p)).length * (16 + (word ", ").length) ≤ 4 * 18 := by rw [e0, List.length_map]; exact Nat.mul_le_mul hw.e4 (Nat.le_refl _)
      unfold startText commas
      simp only [List.length_append, l7, l3]
      omega
theorem joined_nil : ∀ l : List Bytes, joined (word "") l = l.flatMap id
  | [] => rfl
  | [x] => by
    show x = _
    rw [List.flatMap_cons, List.flatMap_nil, List.append_nil] <;> rfl
  | x :: y :: r => by
    rw [joined_cons _ _ (by simp), joined_nil (y :: r), List.flatMap_cons]
    rfl
abbrev N_one_form : List Str := ["program", "rows", "entries", "setting", "part", "number", "row", "sign"]
abbrev P_one_form : List Str := ["program"]
theorem sc_one_form : FnScope N_one_form P_one_form (defScope s_one_form) := ⟨rfl, rfl, rfl, by decide +kernel, rfl, by decide +kernel, by decide +kernel⟩
def sp_one_form (K : PySem.W.Frag) : Sp := fun vs H Q _ => ∃ (pa : Addr) (p : Prog), vs = [.ref pa] ∧ ProgAt K H pa p ∧ Wfp p ∧ ∀ H' l, Same H H' → H l = none → H' l = some (.lst ((Vakepa.shown p).map fun c => V.int c.toNat)) → Q (.ref l) H'
theorem ok_one_form (T : Tx K mg) (D_setting_row : Df P w K mg base CX0 (1) (He.ga K "setting_row") P_setting_row (sp_setting_row K)) (D_part_row : Df P w K mg base CX0 (10) (He.ga K "part_row") P_part_row (sp_part_row K)) : Df P w K mg base CX0 (11) (He.ga K "one_form") P_one_form (sp_one_form K) := by
  refine df_mk (F_one_form T) sc_one_form (fun _ _ _ _ _ _ us hl => match us, hl with | [_], _ => rfl) (fun vs H Q E h => by obtain ⟨_, _, rfl, _⟩ := h; rfl) (fun cdv A outer s H vs Q E hr h => ⟨_, (pss_cons (ps_setLc (i := 1) rfl sc_one_form.nd rfl rfl (sw_true rfl rfl rfl (by decide +kernel)) (own := [("setting", 3)]) (pi_list (pe_fld (pv 0) rfl)) (blkOk_by (own := [("setting", 3)]) (N := N_one_form) (sc := defScope s_one_form) (by decide +kernel)) (fun _ _ _ _ _ => pg_name (i := 3) sc_one_form.nd rfl (Or.inl rfl)) (fun _ _ _ _ _ => pts_nil) (fun _ _ _ _ _ => (pf D_setting_row (g_setting_row T) hr (pa_cons (pv 3) pa_nil)))) (pss_cons (ps_expr (pe_bm PySem.F.plainAttrs_list PySem.F.slot_list_extend PySem.F.type_list_extend mt_extend (pv 1) (pa_cons (pe_lc rfl sc_one_form.nd (own := [("part", 4)]) (pi_list (pe_fld (pv 0) rfl)) (blkOk_by (own := [("part", 4)]) (N := N_one_form) (sc := defScope s_one_form) (by decide +kernel)) (fun _ _ _ _ _ => pg_name (i := 4) sc_one_form.nd rfl (Or.inl rfl)) (fun _ _ _ _ _ => pts_nil) (fun _ _ _ _ _ => (pf D_part_row (g_part_row T) hr (pa_cons (pv 4) pa_nil)))) pa_nil))) (pss_cons (ps_setLc (i := 2) rfl sc_one_form.nd rfl rfl (sw_true rfl rfl rfl (by decide +kernel)) (own := [("number", 5)]) (pi_list (pe_fld (pv 0) rfl)) (blkOk_by (own := [("number", 5)]) (N := N_one_form) (sc := defScope s_one_form) (by decide +kernel)) (fun _ _ _ _ _ => pg_name (i := 5) sc_one_form.nd rfl (Or.inl rfl)) (fun _ _ _ _ _ => pts_nil) (fun _ _ _ _ _ => (pe_fldK (K := K) rfl (pe_ix (ix_listK (K := K) rfl) (pe_fldK (K := K) rfl (pv 0) rfl) (pv 5) (fun _ _ => rfl)) rfl))) (pss_cons (ps_expr (pe_bm PySem.F.plainAttrs_list PySem.F.slot_list_append PySem.F.type_list_append mt_append (pv 1) (pa_cons (pe_op op_add_str (pe_op op_add_str pe_str (pe_join pe_str (pv 2))) pe_str) pa_nil))) (pss_one (ps_ret (pe_lc rfl sc_one_form.nd (own := [("sign", 7)]) (pi_str (pe_join pe_str (pe_lc rfl sc_one_form.nd (own := [("row", 6)]) (pi_list (pv 1)) (blkOk_by (own := [("row", 6)]) (N := N_one_form) (sc := defScope s_one_form) (by decide +kernel)) (fun _ _ _ _ _ => pg_name (i := 6) sc_one_form.nd rfl (Or.inl rfl)) (fun _ _ _ _ _ => pts_nil) (fun _ _ _ _ _ => (pe_op op_add_str (pv 6) pe_str))))) (blkOk_by (own := [("sign", 7)]) (N := N_one_form) (sc := defScope s_one_form) (by decide +kernel)) (fun _ _ _ _ _ => pg_name (i := 7) sc_one_form.nd rfl (Or.inl rfl)) (fun _ _ _ _ _ => pts_nil) (fun _ _ _ _ _ => (pe_callB call_ord (by rfl) (b_ord T) (by decide +kernel) (pa_cons (pv 7) pa_nil)))))))))), ?_⟩)
  obtain ⟨pa, p, rfl, hP, hw, q⟩ := h
  obtain ⟨dxP, lS, lP, lE, dN, sa, pl, p1, p2, p3, p4, p5, p6, p7⟩ := id hP
  have hrl := row_len hw
  have hsl : (sa.map V.ref).length = p.sets.length := by rw [List.length_map, p3.len]
  have hpl : (pl.map V.ref).length = p.parts.length := by rw [List.length_map, p5.len]
  have hel : (iv p.starts).length = p.starts.length := List.length_map _
  refine ⟨_, rfl, pa, _, dxP, _, _, rfl, p1, c_Program T, n_Program_settings T, rfl, lS, rfl, ⟨_, SqL.of p2⟩, fun R hR => ?_⟩
  refine lc_it walk_list (fun j H' => Same H H' ∧ H' R = some (.lst (((p.sets.take j).map settingText).map sv))) ⟨same_new hR, upd_same⟩ (fun j H' _ k => SqL.of (k.1 _ _ p2)) ?_ ?_
  · rintro j x H1 H2 hj ⟨k1, k2⟩ ⟨rfl, hx⟩
    rw [List.getElem?_map] at hx
    obtain ⟨a, ha, rfl⟩ := Option.map_eq_some_iff.mp hx
    obtain ⟨s, hs, hsa⟩ := p3.at' ha
    refine ⟨rfl, _, rfl, a, s, rfl, hsa.same k1, hw.sg s (List.mem_of_getElem? hs), _, k2, ?_, same_upd k1 hR, ?_⟩
    · rw [List.length_map, List.length_map, List.length_take]
      have := hw.s3
      exact Nat.lt_of_le_of_lt (by omega : _ ≤ 3) (by decide)
    · rw [upd_same, List.take_add_one, hs, List.map_append, List.map_append] <;> rfl
  rintro H1 ⟨k1, k2⟩
  rw [hsl, List.take_length] at k2
  refine ⟨_, rfl, .inl ⟨rfl, _, SqL.of k2⟩, _, rfl, pa, _, dxP, _, _, rfl, k1 _ _ p1, c_Program T, n_Program_parts T, rfl, lP, rfl, ⟨_, SqL.of (k1 _ _ p4)⟩, fun D hD => ?_⟩
  refine lc_it walk_list (fun j H' => Same H1 H' ∧ H' D = some (.lst (((p.parts.take j).map (partText p)).map sv))) ⟨same_new hD, upd_same⟩ (fun j H' _ k => SqL.of (k.1 _ _ (k1 _ _ p4))) ?_ ?_
  · rintro j x H2 H3 hj ⟨g1, g2⟩ ⟨rfl, hx⟩
    rw [List.getElem?_map] at hx
    obtain ⟨a, ha, rfl⟩ := Option.map_eq_some_iff.mp hx
    obtain ⟨x, hx, hxa⟩ := p5.at' ha
    refine ⟨rfl, _, rfl, a, p, x, rfl, hw, hxa.same (k1.trans g1), List.mem_of_getElem? hx, fun H4 s4 => ⟨_, s4 _ _ g2, ?_, same_upd (g1.trans s4) hD, ?_⟩⟩
    · rw [List.length_map, List.length_map, List.length_take]
      have := hw.p10
      exact Nat.lt_of_le_of_lt (by omega : _ ≤ 10) (by decide)
    · rw [upd_same, List.take_add_one, hx, List.map_append, List.map_append] <;> rfl
  rintro H2 ⟨g1, g2⟩
  rw [hpl, List.take_length] at g2
  refine ⟨R, D, _, _, rfl, rfl, g1 _ _ k2, g2, ?_, ?_⟩
  · rw [List.length_map, List.length_map, List.length_map, List.length_map]
    exact Nat.le_trans (Nat.add_le_add hw.s3 hw.p10) (by decide)
  have s3 : Same H (upd H2 R (.lst ((p.sets.map settingText).map sv ++ (p.parts.map (partText p)).map sv))) := same_upd (k1.trans g1) hR
  have e3 : upd H2 R (.lst ((p.sets.map settingText).map sv ++ (p.parts.map (partText p)).map sv)) R = some (.lst ((p.sets.map settingText ++ p.parts.map (partText p)).map sv)) := by rw [upd_same, List.map_append]
  refine ⟨_, rfl, pa, _, dxP, _, _, rfl, s3 _ _ p1, c_Program T, n_Program_entries T, rfl, lE, rfl, ⟨_, SqL.of (s3 _ _ p6)⟩, fun D2 hD2 => ?_⟩
  refine lc_it walk_list (fun j H' => Same (upd H2 R (.lst ((p.sets.map settingText).map sv ++ (p.parts.map (partText p)).map sv))) H' ∧ H' D2 = some (.lst (((p.starts.take j).map (nameOf p)).map sv))) ⟨same_new hD2, upd_same⟩ (fun j H' _ k => SqL.of (k.1 _ _ (s3 _ _ p6))) ?_ ?_
  · rintro j x H4 H5 hj ⟨w1, w2⟩ ⟨rfl, hx⟩
    rw [List.getElem?_map] at hx
    obtain ⟨k, hk, rfl⟩ := Option.map_eq_some_iff.mp hx
    have hkl := hw.eg k (List.mem_of_getElem? hk)
    have hxk : p.parts[k]? = some p.parts[k] := List.getElem?_eq_getElem hkl
    obtain ⟨pp, hpp, dxp, lb, us, z1, z2, z3⟩ := p5.at_ hxk
    have hix : atI (pl.map V.ref) (k : Int) = some (.ref pp) := atI_nat (by rw [List.getElem?_map, hpp] <;> rfl)
    have hnm : p.parts[k].name = nameOf p k := by
      unfold nameOf
      rw [hxk] <;> rfl
    refine ⟨rfl, _, rfl, pa, _, dxP, _, _, rfl, w1 _ _ (s3 _ _ p1), c_Program T, n_Program_parts T, rfl, _, rfl, lP, _, _, _, rfl, rfl, SqL.of (w1 _ _ (s3 _ _ p4)), hix, pp, _, dxp, _, _, rfl, w1 _ _ (s3 _ _ z1), c_Part T, n_Part_name T, rfl, _, w2, ?_, same_upd w1 hD2, ?_⟩
    · rw [List.length_map, List.length_map, List.length_take]
      have := hw.e4
      exact Nat.lt_of_le_of_lt (by omega : _ ≤ 4) (by decide)
    · rw [upd_same, List.take_add_one, hk, hnm, List.map_append, List.map_append] <;> rfl
  rintro H4 ⟨w1, w2⟩
  have hsl4 : (List.map (fun (k : Nat) => V.int k) p.starts).length = p.starts.length := List.length_map _
  rw [hsl4, List.take_length] at w2
  have e4 := w1 _ _ e3
  have s4 := s3.trans w1
  have l7 : (word "start ").length = 6 := by decide +kernel
  have l3 : (word " ;").length = 2 := by decide +kernel
  have hnl : ∀ b ∈ p.starts.map (nameOf p), b.length ≤ 16 := fun b hb => by
    obtain ⟨k, _, rfl⟩ := List.mem_map.mp hb
    exact nameOf_len hw
  have hcl : (joined (word ", ") (p.starts.map (nameOf p))).length ≤ 72 := by
    have hj := joined_len (word ", ") 16 (p.starts.map (nameOf p)) hnl
    have e0 : (word ", ").length = 2 := by decide +kernel
    have h4 : (p.starts.map (nameOf p)).length * (16 + (word ", ").length) ≤ 4 * 18 := by rw [e0, List.length_map]; exact Nat.mul_le_mul hw.e4 (Nat.le_refl _)
    omega
  refine ⟨_, rfl, .inl ⟨rfl, _, SqL.of e4⟩, ⟨_, rfl⟩, _, rfl, tx (word ", "), D2, (p.starts.map (nameOf p)).map tx, W ", ", rfl, .inl (SqL.of (by rw [← svs]; exact w2)), ?_, ?_⟩
  · have h1 := len_sum (p.starts.map (nameOf p)) 16 hnl
    have e0 : (tx (word ", ")).length = 2 := by decide +kernel
    have := hw.e4
    rw [List.length_map, e0, List.length_map]
    rw [List.length_map] at h1
    omega
  rw [join_sep]
  refine ⟨tx (word "start "), tx (joined (word ", ") (p.starts.map (nameOf p))), W "start ", rfl, tl (by omega), ?_⟩
  refine ⟨tx (word "start " ++ joined (word ", ") (p.starts.map (nameOf p))), tx (word " ;"), XA _ _, W " ;", tl (by rw [List.length_append]; omega), ?_⟩
  rw [tx_app]
  have hst : word "start " ++ joined (word ", ") (p.starts.map (nameOf p)) ++ word " ;" = startText p := by
    unfold startText commas
    rw [List.append_assoc]
  rw [hst]
  have hrl2 : (List.map sv (p.sets.map settingText ++ p.parts.map (partText p))).length ≤ 13 := by
    rw [List.length_map, List.length_append, List.length_map, List.length_map]
    exact Nat.add_le_add hw.s3 hw.p10
  refine ⟨R, _, _, rfl, rfl, e4, Nat.lt_of_le_of_lt hrl2 (by decide), ?_⟩
  have hrows : (p.sets.map settingText ++ p.parts.map (partText p)).map sv ++ [sv (startText p)] = (rowsText p).map sv := by
    unfold rowsText
    simp only [List.map_append, List.map_cons, List.map_nil, List.append_assoc]
  have hrows2 : (p.sets.map settingText ++ p.parts.map (partText p)).map sv ++ [V.str (tx (startText p))] = (rowsText p).map sv := hrows
  rw [hrows2]
  have s5 : Same H (upd H4 R (.lst ((rowsText p).map sv))) := same_upd s4 hR
  have e5 : upd H4 R (.lst ((rowsText p).map sv)) R = some (.lst ((rowsText p).map sv)) := upd_same
  generalize upd H4 R (.lst ((rowsText p).map sv)) = H5 at s5 e5 ⊢
  have hrc : (rowsText p).length ≤ 14 := by
    unfold rowsText
    rw [List.length_append, List.length_append, List.length_map, List.length_map]
    have := hw.s3
    have := hw.p10
    show p.sets.length + (p.parts.length + 1) ≤ 14
    omega
  refine ⟨⟨_, rfl⟩, _, rfl, R, rfl, ⟨_, SqL.of e5⟩, fun D6 hD6 => ?_⟩
  refine lc_it walk_list (fun j H' => Same H5 H' ∧ H' D6 = some (.lst ((((rowsText p).take j).map line).map sv))) ⟨same_new hD6, upd_same⟩ (fun j H' _ k => SqL.of (k.1 _ _ e5)) ?_ ?_
  · rintro j x H6 H7 hj ⟨v1, v2⟩ ⟨rfl, hx⟩
    rw [List.getElem?_map] at hx
    obtain ⟨b, hb, rfl⟩ := Option.map_eq_some_iff.mp hx
    have hbl := hrl b (List.mem_of_getElem? hb)
    have l0 : (word "\n").length = 1 := by decide +kernel
    refine ⟨rfl, _, rfl, tx b, tx (word "\n"), rfl, W "\n", tl (by omega), _, v2, ?_, same_upd v1 hD6, ?_⟩
    · rw [List.length_map, List.length_map, List.length_take]
      exact Nat.lt_of_le_of_lt (by omega : _ ≤ 14) (by decide)
    · rw [upd_same, tx_app, List.take_add_one, hb, List.map_append, List.map_append]
      have : word "\n" = [10] := by decide +kernel
      rw [this] <;> rfl
  rintro H6 ⟨v1, v2⟩
  rw [List.length_map, List.take_length] at v2
  have hlines : ∀ b ∈ (rowsText p).map line, b.length ≤ 360001 := fun b hb => by
    obtain ⟨a, ha, rfl⟩ := List.mem_map.mp hb
    have := hrl a ha
    show (a ++ [10]).length ≤ _
    rw [List.length_append]
    exact Nat.succ_le_succ this
  refine ⟨tx (word ""), D6, ((rowsText p).map line).map tx, W "", rfl, .inl (SqL.of (by rw [← svs]; exact v2)), ?_, ?_⟩
  · have h1 := len_sum ((rowsText p).map line) 360001 hlines
    have e0 : (tx (word "")).length = 0 := by decide +kernel
    rw [e0, Nat.mul_zero, Nat.add_zero]
    rw [List.length_map] at h1
    omega
  have hshown : joined (word "") ((rowsText p).map line) = Vakepa.shown p := by
    rw [joined_nil, List.flatMap_map, shown_rows] <;> rfl
  rw [join_sep, hshown]
  have hshl : (Vakepa.shown p).length ≤ 6000000 := by
    have h1 := len_sum ((rowsText p).map line) 360001 hlines
    rw [← hshown, joined_nil]
    have h2 : (((rowsText p).map line).flatMap id).length = ((((rowsText p).map line).map tx).map (·.length)).sum := by
      generalize (rowsText p).map line = l
      induction l with
      | nil => rfl
      | cons a r ih => rw [List.flatMap_cons, List.length_append, ih, List.map_cons, List.map_cons, List.sum_cons, tx_len] <;> rfl
    rw [h2]
    rw [List.length_map] at h1
    omega
  refine ⟨_, rfl, fun D7 hD7 => ?_⟩
  refine lc_it walk_str (fun j H' => Same H6 H' ∧ H' D7 = some (.lst (((Vakepa.shown p).take j).map fun c => V.int c.toNat))) ⟨same_new hD7, upd_same⟩ (fun _ _ _ _ => True.intro) ?_ ?_
  · rintro j x H7 H8 hj ⟨u1, u2⟩ ⟨rfl, c, hc, rfl⟩
    have hc2 : ((Vakepa.shown p).map UInt8.toNat)[j]? = some c := by
      rw [← tx_list, Array.getElem?_toList]
      exact hc
    rw [List.getElem?_map] at hc2
    obtain ⟨b, hb, rfl⟩ := Option.map_eq_some_iff.mp hc2
    refine ⟨rfl, _, rfl, _, rfl, rfl, _, u2, ?_, same_upd u1 hD7, ?_⟩
    · rw [List.length_map]
      exact Nat.lt_of_le_of_lt (Nat.le_trans (List.length_take_le' _ _) hshl) (by decide)
    · rw [upd_same, List.take_add_one, hb, List.map_append] <;> rfl
  · rintro H7 ⟨u1, u2⟩
    have hsz : (tx (Vakepa.shown p)).cps.size = (Vakepa.shown p).length := tx_len _
    rw [hsz, List.take_length] at u2
    exact q H7 D7 ((s5.trans v1).trans u1) (s5.free (v1.free hD7)) u2
end
end Vf

set_option Elab.async false
set_option linter.all false
set_option maxRecDepth 100000
set_option maxHeartbeats 4000000
/-! What each call tells: the form, chains, what is lost. -/
namespace Vf
open PySem PySem.Spec PyProof.Rows L2
open VakepBase (Bytes)
open Vakepa (Prog total valuesOf sizeOf_)
open Vakepb (tables nextBy nextAny reachedBy lost enters comesAll closest chainOf listRow)
section
variable {P : Program} {w : World} {K : PySem.W.Frag} {mg : Str → Option Value} {base : Heap}
/-- a list of these whole numbers -/
abbrev zv (l : List Int) : List V := l.map V.int
theorem zv_row (l : List Nat) : V.int (l.length : Nat) :: iv l = zv (listRow l) := by
  unfold zv listRow Vakepb.nats iv
  rw [List.map_cons, List.map_map] <;> rfl
abbrev N_counted : List Str := ["numbers"]
abbrev P_counted : List Str := ["numbers"]
theorem sc_counted : FnScope N_counted P_counted (defScope s_counted) := ⟨rfl, rfl, rfl, by decide +kernel, rfl, by decide +kernel, by decide +kernel⟩
def sp_counted : Sp := fun vs H Q _ => ∃ (l : Addr) (xs : List V), vs = [.ref l] ∧ H l = some (.lst xs) ∧ xs.length ≤ 7000000 ∧ ∀ H' l', Same H H' → H l' = none → H' l' = some (.lst (V.int (xs.length : Nat) :: xs)) → Q (.ref l') H'
theorem ok_counted (T : Tx K mg) : Df P w K mg base CX0 (1) (He.ga K "counted") P_counted sp_counted := by
  refine df_mk (F_counted T) sc_counted (fun _ _ _ _ _ _ us hl => match us, hl with | [_], _ => rfl) (fun vs H Q E h => by obtain ⟨_, _, rfl, _⟩ := h; rfl) (fun cdv A outer s H vs Q E hr h => ⟨_, (pss_one (ps_ret (pe_op op_cat (pe_lst (pa_cons (pe_callB call_len_seq (by rfl) (b_len T) PySem.boot_len (pa_cons (pv 0) pa_nil)) pa_nil)) (pv 0)))), ?_⟩)
  obtain ⟨l, xs, rfl, hl, hz, q⟩ := h
  refine ⟨_, rfl, l, _, rfl, .inl (SqL.of hl), by show 1 ≤ sizeLine; decide, fun a ha => ?_⟩
  have s1 := same_new (o := .lst [V.int (xs.length : Nat)]) ha
  refine ⟨_, rfl, a, l, _, _, rfl, rfl, upd_same, s1 _ _ hl, ?_, fun b hb => ?_⟩
  · show 1 + xs.length ≤ sizeLine
    exact Nat.le_trans (show 1 + xs.length ≤ 7000001 by omega) (by decide)
  · exact q _ b (s1.trans (same_new hb)) (s1.free hb) upd_same
theorem shown_len {p : Prog} (hw : Wfp p) : (Vakepa.shown p).length ≤ 6000000 := by
  have hrc : (rowsText p).length ≤ 14 := by
    unfold rowsText
    rw [List.length_append, List.length_append, List.length_map, List.length_map]
    have := hw.s3
    have := hw.p10
    show p.sets.length + (p.parts.length + 1) ≤ 14
    omega
  rw [shown_rows]
  have : ∀ l : List Bytes, (∀ b ∈ l, b.length ≤ 360000) → (l.flatMap Vakepa.line).length ≤ l.length * 360001 := by
    intro l
    induction l with
    | nil => exact fun _ => Nat.zero_le _
    | cons a r ih =>
      intro h
      have h1 := h a (List.mem_cons_self ..)
      have h2 := ih fun b hb => h b (List.mem_cons_of_mem _ hb)
      rw [List.flatMap_cons, List.length_append, List.length_cons, Nat.succ_mul]
      have : (Vakepa.line a).length = a.length + 1 := List.length_append
      omega
  have h1 := this (rowsText p) (row_len hw)
  have : (rowsText p).length * 360001 ≤ 14 * 360001 := Nat.mul_le_mul hrc (Nat.le_refl _)
  omega
abbrev N_shown : List Str := ["program"]
abbrev P_shown : List Str := ["program"]
theorem sc_shown : FnScope N_shown P_shown (defScope s_shown) := ⟨rfl, rfl, rfl, by decide +kernel, rfl, by decide +kernel, by decide +kernel⟩
def sp_shown (K : PySem.W.Frag) : Sp := fun vs H Q _ => ∃ (pa : Addr) (p : Prog), vs = [.ref pa] ∧ ProgAt K H pa p ∧ Wfp p ∧ ∀ H' l, Same H H' → H l = none → H' l = some (.lst (zv (((Vakepa.shown p).length : Int) :: (Vakepa.shown p).map fun c => (c.toNat : Int)))) → Q (.ref l) H'
theorem ok_shown (T : Tx K mg) (D_one_form : Df P w K mg base CX0 (11) (He.ga K "one_form") P_one_form (sp_one_form K)) (D_counted : Df P w K mg base CX0 (1) (He.ga K "counted") P_counted sp_counted) : Df P w K mg base CX0 (12) (He.ga K "shown") P_shown (sp_shown K) := by
  refine df_mk (F_shown T) sc_shown (fun _ _ _ _ _ _ us hl => match us, hl with | [_], _ => rfl) (fun vs H Q E h => by obtain ⟨_, _, rfl, _⟩ := h; rfl) (fun cdv A outer s H vs Q E hr h => ⟨_, (pss_one (ps_ret (pf D_counted (g_counted T) hr (pa_cons (pf D_one_form (g_one_form T) hr (pa_cons (pv 0) pa_nil)) pa_nil)))), ?_⟩)
  obtain ⟨pa, p, rfl, hP, hw, q⟩ := h
  refine ⟨_, rfl, pa, p, rfl, hP, hw, fun H1 l s1 hl e1 => ?_⟩
  refine ⟨l, _, rfl, e1, by rw [List.length_map]; exact Nat.le_trans (shown_len hw) (by decide), fun H2 l2 s2 hl2 e2 => ?_⟩
  refine q H2 l2 (s1.trans s2) (s1.free hl2) ?_
  rw [e2, List.length_map]
  unfold zv
  rw [List.map_cons, List.map_map] <;> rfl
abbrev N_chain : List Str := ["reach", "part", "answer", "shortest", "assignment", "table", "found"]
abbrev P_chain : List Str := ["reach", "part"]
theorem sc_chain : FnScope N_chain P_chain (defScope s_chain) := ⟨rfl, rfl, rfl, by decide +kernel, rfl, by decide +kernel, by decide +kernel⟩
def chainAns (p : Prog) (m k : Nat) : List Int := match chainOf p m k with
  | none => [0]
  | some c => 1 :: (c.1 : Int) :: listRow c.2
/-- what is told of the best so far, and how long it is -/
def bestAns : Option (Nat × List Nat) → List Int
  | none => [0]
  | some c => 1 :: (c.1 : Int) :: listRow c.2
def bestLen (n : Nat) : Option (Nat × List Nat) → Nat
  | none => n + 1
  | some c => c.2.length
theorem last_get {c : List Nat} (h : c ≠ []) (k : Nat) : (c.getLast? == some k) = decide (lst c = k) := by
  have : c.getLast? = some (lst c) := by
    unfold lst
    rw [List.getLastD_eq_getLast?]
    cases e : c.getLast? with
    | none => exact absurd (List.getLast?_eq_none_iff.mp e) h
    | some x => rfl
  rw [this, Bool.eq_iff_iff, decide_eq_true_eq, beq_iff_eq]
  exact ⟨fun z => Option.some.inj z, fun z => by rw [z]⟩
/-- what a dict of chains says of a part -/
theorem ch_get (k : Nat) : ∀ {cs : List (List Nat)} {as : List Addr}, as.length = cs.length → (∀ c ∈ cs, c ≠ []) →
    (cs.find? (fun c => c.getLast? == some k) = none ∧ valV (chKv cs as) (Sum.inl (k : Int) : Key) = none) ∨ ∃ (c : List Nat) (i : Nat) (a : Addr), cs.find? (fun c => c.getLast? == some k) = some c ∧ cs[i]? = some c ∧ as[i]? = some a ∧ valV (chKv cs as) (Sum.inl (k : Int) : Key) = some (.ref a)
  | [], [], _, _ => .inl ⟨rfl, rfl⟩
  | _ :: _, [], h, _ => nomatch h
  | [], _ :: _, h, _ => nomatch h
  | c :: cs, a :: as, h, hn => by
    rw [List.find?_cons, last_get (hn c (List.mem_cons_self ..))]
    show _ ∨ ∃ (c' : List Nat) (i : Nat) (a' : Addr), _ ∧ _ ∧ _ ∧ valV ((Sum.inl (lst c : Int), V.ref a) :: chKv cs as) _ = _
    by_cases e : lst c = k
    · rw [decide_eq_true e]
      exact .inr ⟨c, 0, a, rfl, rfl, rfl, valV_pos (by rw [e])⟩
    · rw [decide_eq_false e]
      have hv : valV ((Sum.inl (lst c : Int), V.ref a) :: chKv cs as) (Sum.inl (k : Int) : Key) = valV (chKv cs as) (Sum.inl (k : Int) : Key) := valV_neg (fun z => e (key_int.mp z))
      rcases ch_get k (Nat.succ.inj h) fun d hd => hn d (List.mem_cons_of_mem _ hd) with ⟨h1, h2⟩ | ⟨d, i, b, h1, h2, h3, h4⟩
      · exact .inl ⟨h1, hv.trans h2⟩
      · exact .inr ⟨d, i + 1, b, h1, h2, h3, hv.trans h4⟩
def sp_chain (K : PySem.W.Frag) : Sp := fun vs H Q _ => ∃ (L : List Addr) (r : Rch) (k : Nat), vs = [.ref r.a, .int k] ∧ ReachS K L H r ∧ r.m < 2 ∧ ∀ H' l, Same H H' → H l = none → H' l = some (.lst (zv (chainAns r.p r.m k))) → Q (.ref l) H'
theorem ok_chain (T : Tx K mg) (D_chains_by : Df P w K mg base CX0 (1) (He.ga K "chains_by") P_chains_by (sp_chains_by K)) (D_counted : Df P w K mg base CX0 (1) (He.ga K "counted") P_counted sp_counted) : Df P w K mg base CX0 (3) (He.ga K "chain") P_chain (sp_chain K) := by
  refine df_mk (F_chain T) sc_chain (fun _ _ _ _ _ _ us hl => match us, hl with | [_, _], _ => rfl) (fun vs H Q E h => by obtain ⟨_, _, _, rfl, _⟩ := h; rfl) (fun cdv A outer s H vs Q E hr h => ⟨_, (pss_cons (ps_set (i := 2) sc_chain.nd rfl (Or.inl rfl) (pe_lst (pa_cons pe_int pa_nil))) (pss_cons (ps_set (i := 3) sc_chain.nd rfl (Or.inl rfl) (pe_op op_add (pe_callB call_len_seq (by rfl) (b_len T) PySem.boot_len (pa_cons (pe_fld (pe_fld (pv 0) rfl) rfl) pa_nil)) pe_int)) (pss_cons (ps_for PassesOwn.never rfl (pi_enum (by rfl) (b_enumerate T) (pa_cons (pe_fld (pv 0) rfl) pa_nil)) (pg_tup rfl (pgs_cons (pg_name (i := 4) sc_chain.nd rfl (Or.inl rfl)) (pgs_cons (pg_name (i := 5) sc_chain.nd rfl (Or.inl rfl)) pgs_nil))) (pss_cons (ps_set (i := 6) sc_chain.nd rfl (Or.inl rfl) (pe_dget1 (hu_of hr) (pf D_chains_by (g_chains_by T) hr (pa_cons (pv 5) (pa_cons (pe_fld (pe_fld (pv 0) rfl) rfl) (pa_cons (pe_lst pa_nil) pa_nil)))) (pv 1) ⟨rfl, rfl, rfl, rfl⟩)) (pss_one (ps_if (PW.pt (pw_and (pt_cmpR op_notN (pv 6) pe_non (nomark _)) (pw_and1 (pt_cmpR op_lt (pe_callB call_len_seq (by rfl) (b_len T) PySem.boot_len (pa_cons (pv 6) pa_nil)) (pv 3) (nomark _))))) (pss_cons (ps_set (i := 3) sc_chain.nd rfl (Or.inl rfl) (pe_callB call_len_seq (by rfl) (b_len T) PySem.boot_len (pa_cons (pv 6) pa_nil))) (pss_one (ps_set (i := 2) sc_chain.nd rfl (Or.inl rfl) (pe_op op_cat (pe_lst (pa_cons pe_int (pa_cons (pv 4) pa_nil))) (pf D_counted (g_counted T) hr (pa_cons (pv 6) pa_nil)))))) pss_nil)))) (pss_one (ps_ret (pv 2)))))), ?_⟩)
  obtain ⟨L, r, k, rfl, h, hm, q⟩ := h
  have hw := h.wf
  obtain ⟨dxP, lS, lP, lE, dN, sa, pl, p1, p2, p3, p4, p5, p6, p7⟩ := id h.prog
  obtain ⟨_, R, htv, ts, hR, hts⟩ : r.m < 2 ∧ ∃ R, r.tv = .ref R ∧ TabsAt (Off (L ++ r.M) H) R (tables r.p r.m) := by
    rcases h.tabs with ⟨z, _⟩ | z
    · omega
    · exact z
  have hobj : H r.a = some (.ins (He.ga K "Reach") r.dx [("program", .ref r.pa), ("tables", .ref R), ("known", .ref r.dk)]) := by
    rw [← htv]
    exact h.obj
  have hpl : pl.length = r.p.parts.length := p5.len
  refine ⟨by show 1 ≤ sizeLine; decide, fun la hla => ?_⟩
  have s1 := same_new (o := .lst [V.int 0]) hla
  refine ⟨_, rfl, r.a, _, r.dx, _, _, rfl, s1 _ _ hobj, c_Reach T, n_Reach_program T, rfl, r.pa, _, dxP, _, _, rfl, s1 _ _ (off_le _ _ p1), c_Program T, n_Program_parts T, rfl, lP, _, rfl, .inl (SqL.of (s1 _ _ (off_le _ _ p4))), _, _, rfl, rfl, ?_⟩
  rw [List.length_map, hpl]
  refine ⟨_, rfl, r.a, _, r.dx, _, _, rfl, s1 _ _ hobj, c_Reach T, n_Reach_tables T, rfl, R, _, rfl, SqL.of (s1 _ _ (off_le _ _ hR)), ?_⟩
  refine for_it walk_enum (fun i σ H' => ∃ (la : Addr) (b : Option (Nat × List Nat)) (x4 x5 x6 : Option V), σ = [some (.ref r.a), some (.int k), some (.ref la), some (.int (bestLen r.p.parts.length b : Nat)), x4, x5, x6] ∧ Same H H' ∧ H la = none ∧ H' la = some (.lst (zv (bestAns b))) ∧
      b = (((tables r.p r.m).take i).zipIdx).foldl (fun b t => bestStep b t.2 ((found r.p.parts.length t.1 r.p.starts []).find? fun c => c.getLast? == some k)) none)
    ⟨la, none, none, none, none, rfl, s1, hla, upd_same, rfl⟩ (fun i σ H' _ ⟨_, _, _, _, _, _, f, _⟩ => SqL.of (f _ _ (off_le _ _ hR))) ?_ ?_
  · rintro i x σ H1 H2 hi ⟨la, b, y4, y5, y6, rfl, k1, k2, k3, k4⟩ ⟨Tp, v1, v2, rfl, hT, rfl, e1, e2⟩
    cases e1
    dsimp only at e2
    rw [List.getElem?_map] at e2
    obtain ⟨ta, hta, rfl⟩ := Option.map_eq_some_iff.mp e2
    obtain ⟨t, ht, hat⟩ := hts.at' hta
    have htm := List.mem_of_getElem? ht
    have hrows := rows_tables r.p r.m t htm
    have htl : t.length = r.p.parts.length := by
      unfold tables at htm
      split at htm
      · obtain ⟨a, _, rfl⟩ := List.mem_map.mp htm
        unfold nextBy
        rw [List.length_map, List.length_range]
      · rw [List.mem_singleton.mp htm]
        unfold nextAny
        rw [List.length_map, List.length_range]
    have sT := same_new (o := .tup [V.int i, V.ref ta]) hT
    have k1' := k1.trans sT
    have k3' := sT _ _ k3
    have sO : Same (Off (L ++ r.M) H) (upd H1 Tp (.tup [V.int i, V.ref ta])) := off_le.trans k1'
    have step : (((tables r.p r.m).take (i + 1)).zipIdx).foldl (fun b t => bestStep b t.2 ((found r.p.parts.length t.1 r.p.starts []).find? fun c => c.getLast? == some k)) none = bestStep b i ((found r.p.parts.length t r.p.starts []).find? fun c => c.getLast? == some k) := by
      have hil := (List.getElem?_eq_some_iff.mp ht).1
      rw [List.take_add_one, ht, Option.toList, List.zipIdx_append, List.foldl_append, ← k4, List.length_take, Nat.min_eq_left (Nat.le_of_lt hil), Nat.zero_add] <;> rfl
    obtain ⟨o1, o2, o3⟩ := found_ok (t := t) (away := []) hrows hw.en hw.eg
    refine ⟨Tp, _, rfl, .inl (.inl upd_same), rfl, _, _, rfl, _, _, rfl, rfl, ?_⟩
    refine ⟨_, rfl, _, rfl, r.a, _, r.dx, _, _, rfl, k1' _ _ hobj, c_Reach T, n_Reach_program T, rfl, r.pa, _, dxP, _, _, rfl, sO _ _ p1, c_Program T, n_Program_entries T, rfl, by decide, fun l hl => ?_⟩
    have s3 := same_new (o := .lst []) hl
    refine ⟨ta, lE, l, t, r.p.starts, [], r.p.parts.length, rfl, (hat.same sO).same s3, s3 _ _ (sO _ _ p6), .inl upd_same, hw.en, hw.eg, hrows, htl, hw.p10, fun H4 d s4 hd hch => ?_⟩
    obtain ⟨as, g1, g2⟩ := hch
    have hal := g2.len
    have k5 := (k1'.trans s3).trans s4
    have k6 := s4 _ _ (s3 _ _ k3')
    refine ⟨d, rfl, .inl ⟨_, .inl g1⟩, _, rfl, _, DGet.k (k := Sum.inl (k : Int)) g1, ?_⟩
    rcases ch_get k hal fun c hc => (o3 c hc).1 with ⟨h1, h2⟩ | ⟨c, ic, a, h1, h2, h3, h4⟩
    · rw [h2]
      rw [h1] at step
      refine ⟨_, rfl, rfl, _, rfl, iteNS rfl ?_⟩
      refine iteF ?_
      exact ⟨la, b, _, _, _, rfl, k5, k2, k6, by rw [step]; cases b <;> rfl⟩
    · rw [h4]
      rw [h1] at step
      have hcl := (o3 c (List.mem_of_getElem? h2)).2
      obtain ⟨a', ha', hac⟩ := g2.at_ h2
      rw [h3] at ha'
      cases ha'
      have hlen : (iv c).length = c.length := List.length_map _
      refine ⟨_, rfl, rfl, _, rfl, iteN (fun _ => ?_) (fun z => nomatch z)⟩
      refine ⟨_, rfl, a, _, rfl, .inl (SqL.of hac), _, rfl, _, _, rfl, rfl, _, rfl, ?_⟩
      rw [hlen]
      refine iteD (fun hlt => ?_) (fun hge => ?_)
      · have hlt' : c.length < bestLen r.p.parts.length b := by
          have : (c.length : Int) < (bestLen r.p.parts.length b : Nat) := hlt
          omega
        have hb : bestStep b i (some c) = some (i, c) := by
          cases b with
          | none => rfl
          | some x => exact if_pos hlt'
        refine ⟨_, rfl, a, _, rfl, .inl (SqL.of hac), ?_⟩
        rw [hlen]
        refine ⟨_, rfl, by show 2 ≤ sizeLine; decide, fun l1 hl1 => ?_⟩
        have s5 := same_new (o := .lst [V.int 1, V.int i]) hl1
        refine ⟨_, rfl, a, _, rfl, s5 _ _ hac, by rw [hlen]; exact Nat.le_trans hcl (Nat.le_trans hw.p10 (by decide)), fun H6 l2 s6 hl2 e6 => ?_⟩
        have e5 := s6 _ _ (upd_same : upd H4 l1 (.lst [V.int 1, V.int i]) l1 = _)
        refine ⟨l1, l2, _, _, rfl, rfl, e5, e6, ?_, fun p hp => ?_⟩
        · show 2 + ((iv c).length + 1) ≤ sizeLine
          rw [hlen]
          exact Nat.le_trans (show 2 + (c.length + 1) ≤ 13 by have := hw.p10; omega) (by decide)
        have k7 := (k5.trans s5).trans s6
        refine ⟨p, some (i, c), _, _, _, rfl, k7.trans (same_new hp), k7.free hp, ?_, ?_⟩
        · rw [upd_same, hlen]
          show some (HO.lst (V.int 1 :: V.int i :: (V.int (c.length : Nat) :: iv c))) = some (.lst (zv (1 :: (i : Int) :: listRow c)))
          rw [zv_row] <;> rfl
        · rw [step, hb]
      · have hb : bestStep b i (some c) = b := by
          cases b with
          | none =>
            refine absurd ?_ hge
            show (c.length : Int) < ((r.p.parts.length + 1 : Nat) : Int)
            omega
          | some x =>
            refine if_neg fun z => hge ?_
            show (c.length : Int) < (x.2.length : Nat)
            omega
        exact ⟨la, b, _, _, _, rfl, k5, k2, k6, by rw [step, hb]⟩
  · rintro σ H1 ⟨la, b, y4, y5, y6, rfl, k1, k2, k3, k4⟩
    rw [List.length_map, hts.len, List.take_length, ← chainOf_eq] at k4
    refine ⟨_, rfl, q H1 la k1 k2 ?_⟩
    rw [k3]
    unfold chainAns
    rw [← k4]
    cases b <;> rfl
end
end Vf

set_option Elab.async false
set_option linter.all false
set_option maxRecDepth 100000
set_option maxHeartbeats 4000000
/-! What each call tells: lost, tree, shares, around, both. -/
namespace Vf
open PySem PySem.Spec PyProof.Rows L2
open VakepBase (Bytes)
open Vakepa (Prog total valuesOf sizeOf_)
open Vakepb (tables nextBy nextAny reachedBy lost enters comesAll closest chainOf listRow)
section
variable {P : Program} {w : World} {K : PySem.W.Frag} {mg : Str → Option Value} {base : Heap}
/-- what is new behind a frame was new ahead of it -/
theorem fr_free {L : List Addr} {H H' : Hp} {r : Rch} (f : FrR r H H') (h : ReachS K L H' r) {l : Addr} (hl : H' l = none) : H l = none := by
  cases e : H l with
  | none => rfl
  | some o =>
    by_cases hd : l = r.dk
    · obtain ⟨kvs, z⟩ := h.dk_some
      rw [hd, z] at hl
      cases hl
    · have := off_le _ _ (f _ _ (off_some.mpr ⟨fun z => hd (List.mem_singleton.mp z), e⟩))
      rw [hl] at this
      cases this
theorem not_dk {L : List Addr} {H : Hp} {r : Rch} (h : ReachS K L H r) {l : Addr} (hl : H l = none) : l ∉ r.M := fun z => by
  obtain ⟨kvs, y⟩ := h.dk_some
  rw [List.mem_singleton.mp z, y] at hl
  cases hl
def lostAns (p : Prog) (m k : Nat) : List Int := (sizeOf_ p (lost p m [k]) : Int) :: listRow (lost p m [k])
abbrev N_lost : List Str := ["reach", "part"]
abbrev P_lost : List Str := ["reach", "part"]
theorem sc_lost : FnScope N_lost P_lost (defScope s_lost) := ⟨rfl, rfl, rfl, by decide +kernel, rfl, by decide +kernel, by decide +kernel⟩
def sp_lost (K : PySem.W.Frag) : Sp := fun vs H Q _ => ∃ (L : List Addr) (r : Rch) (k : Nat), vs = [.ref r.a, .int k] ∧ ReachS K L H r ∧ k < r.p.parts.length ∧ ∀ H' l, FrR r H H' → ReachS K L H' r → H l = none → H' l = some (.lst (zv (lostAns r.p r.m k))) → Q (.ref l) H'
theorem ok_lost (T : Tx K mg) (D_Reach_size_lost : Df P w K mg base CX0 (99) (He.ma K (He.ga K "Reach") "size_lost") P_Reach_size_lost (sp_size_lost K)) (D_Reach_lost_with : Df P w K mg base CX0 (98) (He.ma K (He.ga K "Reach") "lost_with") P_Reach_lost_with (sp_lost_with K)) (D_counted : Df P w K mg base CX0 (1) (He.ga K "counted") P_counted sp_counted) : Df P w K mg base CX0 (100) (He.ga K "lost") P_lost (sp_lost K) := by
  refine df_mk (F_lost T) sc_lost (fun _ _ _ _ _ _ us hl => match us, hl with | [_, _], _ => rfl) (fun vs H Q E h => by obtain ⟨_, _, _, rfl, _⟩ := h; rfl) (fun cdv A outer s H vs Q E hr h => ⟨_, (pss_one (ps_ret (pe_op op_cat (pe_lst (pa_cons (pm D_Reach_size_lost (c_Reach T) (m_Reach_size_lost T)  hr (pv 0) (pa_cons (pe_lst (pa_cons (pv 1) pa_nil)) pa_nil)) pa_nil)) (pf D_counted (g_counted T) hr (pa_cons (pm D_Reach_lost_with (c_Reach T) (m_Reach_lost_with T)  hr (pv 0) (pa_cons (pe_lst (pa_cons (pv 1) pa_nil)) pa_nil)) pa_nil))))), ?_⟩)
  obtain ⟨L, r, k, rfl, h, hk, q⟩ := h
  have hw := h.wf
  have one : ∀ j ∈ [k], j < r.p.parts.length := fun j hj => by rw [List.mem_singleton.mp hj]; exact hk
  refine ⟨_, rfl, r.a, _, _, rfl, h.obj, rfl, _, rfl, by show 1 ≤ sizeLine; decide, fun a1 ha1 => ?_⟩
  have s1 := same_new (o := .lst [V.int k]) ha1
  refine ⟨L, r, a1, [k], rfl, h.same s1, upd_same, (by show 1 ≤ 2; decide), one, fun H2 f2 h2 => ?_⟩
  refine ⟨by show 1 ≤ sizeLine; decide, fun a3 ha3 => ?_⟩
  have s3 := same_new (o := .lst [V.int (sizeOf_ r.p (lost r.p r.m [k]) : Nat)]) ha3
  have h3 := h2.same s3
  refine ⟨_, rfl, r.a, _, _, rfl, h3.obj, rfl, _, rfl, by show 1 ≤ sizeLine; decide, fun a4 ha4 => ?_⟩
  have s4 := same_new (o := .lst [V.int k]) ha4
  refine ⟨L, r, a4, [k], rfl, h3.same s4, upd_same, (by show 1 ≤ 2; decide), one, fun H5 l5 f5 h5 e5 => ?_⟩
  have lf := lost_few hw r.m [k]
  have il : (iv (lost r.p r.m [k])).length = (lost r.p r.m [k]).length := List.length_map _
  refine ⟨l5, _, rfl, off_le _ _ e5, by rw [il]; omega, fun H6 l6 s6 hl6 e6 => ?_⟩
  have h6 := h5.same s6
  have e3 : Off r.M _ a3 = some (.lst [V.int (sizeOf_ r.p (lost r.p r.m [k]) : Nat)]) := off_some.mpr ⟨not_dk h2 ha3, s4 _ _ (upd_same : upd H2 a3 _ a3 = _)⟩
  have e36 := s6 _ _ (off_le _ _ (f5 _ _ e3))
  have fr : FrR r H H6 := ((((off_same s1).trans f2).trans (off_same (s3.trans s4))).trans f5).trans (off_same s6)
  refine ⟨a3, l6, _, _, rfl, rfl, e36, e6, ?_, fun b hb => ?_⟩
  · show 1 + ((iv (lost r.p r.m [k])).length + 1) ≤ sizeLine
    rw [il]
    exact Nat.le_trans (show 1 + ((lost r.p r.m [k]).length + 1) ≤ 12 by omega) (by decide)
  · have s7 := same_new (o := .lst ([V.int (sizeOf_ r.p (lost r.p r.m [k]) : Nat)] ++ (V.int ((iv (lost r.p r.m [k])).length : Nat) :: iv (lost r.p r.m [k])))) hb
    refine q _ b (fr.trans (off_same s7)) (h6.same s7) (fr_free fr h6 hb) ?_
    rw [upd_same, il, zv_row]
    rfl
abbrev N_tree : List Str := ["reach", "closest", "answer", "part", "holder"]
abbrev P_tree : List Str := ["reach"]
theorem sc_tree : FnScope N_tree P_tree (defScope s_tree) := ⟨rfl, rfl, rfl, by decide +kernel, rfl, by decide +kernel, by decide +kernel⟩
def treeZ (p : Prog) (k : Nat) : List Int := [(k : Int), match closest p k with
    | none => (-1 : Int)
    | some x => (x : Int)]
def treeAns (p : Prog) : List Int := ((reachedBy p 1 []).length : Int) :: (reachedBy p 1 []).flatMap (treeZ p)
def sp_tree (K : PySem.W.Frag) : Sp := fun vs H Q _ => ∃ (L : List Addr) (r : Rch), vs = [.ref r.a] ∧ ReachS K L H r ∧ r.m = 1 ∧ ∀ H' l, FrR r H H' → ReachS K L H' r → H l = none → H' l = some (.lst (zv (treeAns r.p))) → Q (.ref l) H'
theorem ok_tree (T : Tx K mg) (D_closest_of_all : Df P w K mg base CX0 (99) (He.ga K "closest_of_all") P_closest_of_all (sp_closest_of_all K)) : Df P w K mg base CX0 (100) (He.ga K "tree") P_tree (sp_tree K) := by
  refine df_mk (F_tree T) sc_tree (fun _ _ _ _ _ _ us hl => match us, hl with | [_], _ => rfl) (fun vs H Q E h => by obtain ⟨_, _, rfl, _⟩ := h; rfl) (fun cdv A outer s H vs Q E hr h => ⟨_, (pss_cons (ps_set (i := 1) sc_tree.nd rfl (Or.inl rfl) (pf D_closest_of_all (g_closest_of_all T) hr (pa_cons (pv 0) pa_nil))) (pss_cons (ps_set (i := 2) sc_tree.nd rfl (Or.inl rfl) (pe_lst (pa_cons (pe_callB call_lenD (by rfl) (b_len T) PySem.boot_len (pa_cons (pv 1) pa_nil)) pa_nil))) (pss_cons (ps_lock (ps_for PassesOwn.never rfl (pi_items (pv 1)) (pg_tup rfl (pgs_cons (pg_name (i := 3) sc_tree.nd rfl (Or.inl rfl)) (pgs_cons (pg_name (i := 4) sc_tree.nd rfl (Or.inl rfl)) pgs_nil))) (pss_one (ps_expr (pe_bm PySem.F.plainAttrs_list PySem.F.slot_list_extend PySem.F.type_list_extend mt_extend (pv 2) (pa_cons (pe_lst (pa_cons (pv 3) (pa_cons (pe_ifExp (pt_cmpR op_isN (pv 4) pe_non (nomark _)) (pe_un un_neg pe_int) (pv 4)) pa_nil))) pa_nil)))))) (pss_one (ps_ret (pv 2)))))), ?_⟩)
  obtain ⟨L, r, rfl, h, hm, q⟩ := h
  have hw := h.wf
  refine ⟨_, rfl, L, r, rfl, h, hm, fun H1 d f1 h1 hdM e1 => ?_⟩
  have hW10 : (reachedBy r.p 1 []).length ≤ 10 := Nat.le_trans (le_of_lt (asc_nodup (asc_reached _ _ _)) fun k hk => reached_lt hk) hw.p10
  have hcl : (clKv r.p (reachedBy r.p 1 [])).length = (reachedBy r.p 1 []).length := List.length_map _
  refine ⟨_, rfl, d, _, rfl, e1, ?_⟩
  rw [hcl]
  refine ⟨by show 1 ≤ sizeLine; decide, fun la hla => ?_⟩
  have s2 := same_new (o := .lst [V.int ((reachedBy r.p 1 []).length : Nat)]) hla
  have hda : d ≠ la := ne_of_none e1 hla
  have h2 := h1.open_ (o := .lst [V.int ((reachedBy r.p 1 []).length : Nat)]) hla
  refine ⟨d, .dK (clKv r.p (reachedBy r.p 1 [])), by rw [upd_ne hda]; exact e1, True.intro, fun od => ?_⟩
  have hmd : d ∈ la :: d :: L := List.mem_cons_of_mem _ (List.mem_cons_self ..)
  have h3 := h2.put (o := .frz od (.dK (clKv r.p (reachedBy r.p 1 [])))) hmd
  refine ⟨_, rfl, d, od, _, rfl, upd_same, ?_⟩
  refine for_it walk_items (fun i σ H' => ∃ (x3 x4 : Option V), σ = [some (.ref r.a), some (.ref d), some (.ref la), x3, x4] ∧ ReachS K (la :: d :: L) H' r ∧ (∀ b o, b ≠ la → b ≠ d → H1 b = some o → H' b = some o) ∧ H' d = some (.frz od (.dK (clKv r.p (reachedBy r.p 1 [])))) ∧
      H' la = some (.lst (zv (((reachedBy r.p 1 []).length : Int) :: ((reachedBy r.p 1 []).take i).flatMap (treeZ r.p)))))
    ⟨none, none, rfl, h3, fun b o n1 n2 e => by rw [upd_ne n2, upd_ne n1]; exact e, upd_same, by rw [upd_ne (Ne.symm hda), upd_same] <;> rfl⟩ (fun i σ H' _ ⟨_, _, _, _, _, k, _⟩ => k) ?_ ?_
  · rintro i x σ H4 H5 hi ⟨y3, y4, rfl, k1, k2, k3, k4⟩ ⟨Tp, v1, v2, rfl, hT, rfl, e2, e3⟩
    obtain ⟨k, hk⟩ : ∃ k, (reachedBy r.p 1 [])[i]? = some k := ⟨_, List.getElem?_eq_getElem (by rw [hcl] at hi; exact hi)⟩
    have hkv : (clKv r.p (reachedBy r.p 1 []))[i]? = some (Sum.inl (k : Int), optV (closest r.p k)) := by
      unfold clKv
      rw [List.getElem?_map, hk] <;> rfl
    dsimp only at e2 e3
    rw [hkv] at e2 e3
    cases e2
    cases e3
    have sT := same_new (o := .tup [V.int k, optV (closest r.p k)]) hT
    have hlen : (zv (((reachedBy r.p 1 []).length : Int) :: ((reachedBy r.p 1 []).take i).flatMap (treeZ r.p))).length ≤ 30 := by
      unfold zv
      rw [List.length_map, List.length_cons, List.length_flatMap]
      have : ∀ l : List Nat, (l.map fun (k : Nat) => (treeZ r.p k).length).sum = 2 * l.length := by
        intro l
        induction l with
        | nil => rfl
        | cons a t ih => rw [List.map_cons, List.sum_cons, ih, List.length_cons, Nat.mul_succ, Nat.add_comm] <;> rfl
      rw [this]
      have := List.length_take_le' i (reachedBy r.p 1 [])
      omega
    have fin : ∀ (z : Int) (l : Addr) (y3 y4 : Option V), treeZ r.p k = [(k : Int), z] → upd H4 Tp (.tup [V.int k, optV (closest r.p k)]) l = none →
        ∃ (x3 x4 : Option V), [some (V.ref r.a), some (V.ref d), some (V.ref la), y3, y4] = [some (.ref r.a), some (.ref d), some (.ref la), x3, x4] ∧ ReachS K (la :: d :: L) (upd (upd (upd H4 Tp (.tup [V.int k, optV (closest r.p k)])) l (.lst [V.int k, V.int z])) la (.lst (zv (((reachedBy r.p 1 []).length : Int) :: ((reachedBy r.p 1 []).take i).flatMap (treeZ r.p)) ++ [V.int k, V.int z]))) r ∧ (∀ b o, b ≠ la → b ≠ d → H1 b = some o → upd (upd (upd H4 Tp (.tup [V.int k, optV (closest r.p k)])) l (.lst [V.int k, V.int z])) la (.lst (zv (((reachedBy r.p 1 []).length : Int) :: ((reachedBy r.p 1 []).take i).flatMap (treeZ r.p)) ++ [V.int k, V.int z])) b = some o) ∧ upd (upd (upd H4 Tp (.tup [V.int k, optV (closest r.p k)])) l (.lst [V.int k, V.int z])) la (.lst (zv (((reachedBy r.p 1 []).length : Int) :: ((reachedBy r.p 1 []).take i).flatMap (treeZ r.p)) ++ [V.int k, V.int z])) d = some (.frz od (.dK (clKv r.p (reachedBy r.p 1 [])))) ∧
      upd (upd (upd H4 Tp (.tup [V.int k, optV (closest r.p k)])) l (.lst [V.int k, V.int z])) la (.lst (zv (((reachedBy r.p 1 []).length : Int) :: ((reachedBy r.p 1 []).take i).flatMap (treeZ r.p)) ++ [V.int k, V.int z])) la = some (.lst (zv (((reachedBy r.p 1 []).length : Int) :: ((reachedBy r.p 1 []).take (i + 1)).flatMap (treeZ r.p)))) := fun z l y3 y4 hz hl => by
      have sl := sT.trans (same_new (o := .lst [V.int k, V.int z]) hl)
      refine ⟨y3, y4, rfl, (k1.same sl).put (List.mem_cons_self ..), fun b o n1 n2 e => ?_, ?_, ?_⟩
      · rw [upd_ne n1]
        exact sl _ _ (k2 b o n1 n2 e)
      · rw [upd_ne hda]
        exact sl _ _ k3
      · rw [upd_same, List.take_add_one, hk]
        unfold zv
        rw [Option.toList, List.flatMap_append, List.flatMap_cons, List.flatMap_nil, List.append_nil, hz, List.map_cons, List.map_cons, List.map_append] <;> rfl
    refine ⟨Tp, _, rfl, .inl (.inl upd_same), rfl, _, _, rfl, _, _, rfl, rfl, ?_⟩
    refine ⟨_, rfl, .inl ⟨rfl, _, SqL.of (sT _ _ k4)⟩, _, rfl, ?_⟩
    cases hc : closest r.p k with
    | none =>
      refine ⟨_, rfl, rfl, _, rfl, iteD (fun _ => ?_) (fun z => absurd rfl z)⟩
      refine ⟨_, rfl, by show 2 ≤ sizeLine; decide, fun l hl => ?_⟩
      rw [hc] at sT fin
      have e4 := (same_new (o := .lst [V.int k, V.int (-1)]) hl) _ _ (sT _ _ k4)
      refine ⟨la, l, _, _, rfl, rfl, e4, upd_same, Nat.le_trans (Nat.add_le_add hlen (Nat.le_refl 2)) (by decide), ?_⟩
      exact fin (-1) l _ _ (by unfold treeZ; rw [hc]) hl
    | some x =>
      refine ⟨_, rfl, rfl, _, rfl, iteD (fun z => nomatch z) (fun _ => ?_)⟩
      refine ⟨_, rfl, by show 2 ≤ sizeLine; decide, fun l hl => ?_⟩
      rw [hc] at sT fin
      have e4 := (same_new (o := .lst [V.int k, V.int x]) hl) _ _ (sT _ _ k4)
      refine ⟨la, l, _, _, rfl, rfl, e4, upd_same, Nat.le_trans (Nat.add_le_add hlen (Nat.le_refl 2)) (by decide), ?_⟩
      exact fin x l _ _ (by unfold treeZ; rw [hc]) hl
  · rintro σ H4 ⟨y3, y4, rfl, k1, k2, k3, k4⟩
    rw [hcl, List.take_length] at k4
    refine ⟨k3, _, rfl, q _ la ?_ ((k1.put hmd).close fun x hx => List.mem_cons_of_mem _ (List.mem_cons_of_mem _ hx)) (fr_free f1 h1 hla) (by rw [upd_ne (Ne.symm hda)]; exact k4)⟩
    intro b o e
    obtain ⟨z1, z2⟩ := off_some.mp (f1 b o e)
    have hbd : b ≠ d := ne_of_none (off_some.mp e).2 hdM
    exact off_some.mpr ⟨z1, by rw [upd_ne hbd]; exact k2 b o (ne_of_none z2 hla) hbd z2⟩
abbrev N_shares : List Str := ["reach", "program", "each", "part"]
abbrev P_shares : List Str := ["reach"]
theorem sc_shares : FnScope N_shares P_shares (defScope s_shares) := ⟨rfl, rfl, rfl, by decide +kernel, rfl, by decide +kernel, by decide +kernel⟩
def sharesAns (p : Prog) (m : Nat) : List Int := (sizeOf_ p (reachedBy p m []) : Int) :: Vakepb.nats ((List.range p.parts.length).map fun k => sizeOf_ p (lost p m [k]))
def sp_shares (K : PySem.W.Frag) : Sp := fun vs H Q _ => ∃ (L : List Addr) (r : Rch), vs = [.ref r.a] ∧ ReachS K L H r ∧ ∀ H' l, FrR r H H' → ReachS K L H' r → H l = none → H' l = some (.lst (zv (sharesAns r.p r.m))) → Q (.ref l) H'
theorem ok_shares (T : Tx K mg) (D_Reach_size_lost : Df P w K mg base CX0 (99) (He.ma K (He.ga K "Reach") "size_lost") P_Reach_size_lost (sp_size_lost K)) (D_Reach_come_to : Df P w K mg base CX0 (97) (He.ma K (He.ga K "Reach") "come_to") P_Reach_come_to (sp_come_to K)) (D_Program_size_of : Df P w K mg base CX0 (1) (He.ma K (He.ga K "Program") "size_of") P_Program_size_of (sp_size_of K)) : Df P w K mg base CX0 (101) (He.ga K "shares") P_shares (sp_shares K) := by
  refine df_mk (F_shares T) sc_shares (fun _ _ _ _ _ _ us hl => match us, hl with | [_], _ => rfl) (fun vs H Q E h => by obtain ⟨_, _, rfl, _⟩ := h; rfl) (fun cdv A outer s H vs Q E hr h => ⟨_, (pss_cons (ps_set (i := 1) sc_shares.nd rfl (Or.inl rfl) (pe_fld (pv 0) rfl)) (pss_cons (ps_setLc (i := 2) rfl sc_shares.nd rfl rfl (sw_true rfl rfl rfl (by decide +kernel)) (own := [("part", 3)]) (pi_range1 (by rfl) (b_range T) (pa_cons (pe_callB call_len_seq (by rfl) (b_len T) PySem.boot_len (pa_cons (pe_fld (pv 1) rfl) pa_nil)) pa_nil)) (blkOk_by (own := [("part", 3)]) (N := N_shares) (sc := defScope s_shares) (by decide +kernel)) (fun _ _ _ _ _ => pg_name (i := 3) sc_shares.nd rfl (Or.inl rfl)) (fun _ _ _ _ _ => pts_nil) (fun _ _ _ _ _ => (pm D_Reach_size_lost (c_Reach T) (m_Reach_size_lost T)  hr (pv 0) (pa_cons (pe_lst (pa_cons (pv 3) pa_nil)) pa_nil)))) (pss_one (ps_ret (pe_op op_cat (pe_lst (pa_cons (pm D_Program_size_of (c_Program T) (m_Program_size_of T)  hr (pv 1) (pa_cons (pm D_Reach_come_to (c_Reach T) (m_Reach_come_to T)  hr (pv 0) (pa_cons (pe_lst pa_nil) pa_nil)) pa_nil)) pa_nil)) (pv 2)))))), ?_⟩)
  obtain ⟨L, r, rfl, h, q⟩ := h
  have hw := h.wf
  obtain ⟨dxP, lS, lP, lE, dN, sa, pl, p1, p2, p3, p4, p5, p6, p7⟩ := id h.prog
  have hpl : (pl.map V.ref).length = r.p.parts.length := by rw [List.length_map, p5.len]
  refine ⟨_, rfl, r.a, _, r.dx, _, _, rfl, h.obj, c_Reach T, n_Reach_program T, rfl, ?_⟩
  refine ⟨_, rfl, r.pa, _, dxP, _, _, rfl, off_le _ _ p1, c_Program T, n_Program_parts T, rfl, lP, _, rfl, .inl (SqL.of (off_le _ _ p4)), ?_⟩
  rw [hpl]
  have hn10 := hw.p10
  refine ⟨_, rfl, by omega, by omega, fun D hD => ?_⟩
  have hDM := not_dk h hD
  have htn : ((r.p.parts.length : Nat) : Int).toNat = r.p.parts.length := rfl
  rw [htn]
  have f0 : Same (Off r.M H) (Off (D :: r.M) (upd H D (.lst []))) := fun b o e => by
    obtain ⟨z1, z2⟩ := off_some.mp e
    have hb : b ≠ D := ne_of_none z2 hD
    exact off_some.mpr ⟨fun z => (List.mem_cons.mp z).elim hb z1, by rw [upd_ne hb]; exact z2⟩
  refine lc_it walk_range (fun j H' => ReachS K (D :: L) H' r ∧ Same (Off r.M H) (Off (D :: r.M) H') ∧ H' D = some (.lst (zv (Vakepb.nats ((List.range j).map fun k => sizeOf_ r.p (lost r.p r.m [k])))))) ⟨h.open_ hD, f0, upd_same⟩ (fun _ _ _ _ => True.intro) ?_ ?_
  · rintro j x H2 H3 hj ⟨k1, k2, k3⟩ ⟨rfl, rfl⟩
    have ez : (0 : Int) + (j : Int) = j := Int.zero_add _
    rw [show (fun i : Nat => V.int ((0 : Int) + (i : Int))) j = V.int (j : Int) from congrArg V.int ez]
    refine ⟨rfl, _, rfl, r.a, _, _, rfl, k1.obj, rfl, _, rfl, by show 1 ≤ sizeLine; decide, fun l hl => ?_⟩
    have s4 := same_new (o := .lst [V.int j]) hl
    refine ⟨D :: L, r, l, [j], rfl, k1.same s4, upd_same, (by show 1 ≤ 2; decide), (fun i hi => by rw [List.mem_singleton.mp hi]; exact hj), fun H5 f5 h5 => ?_⟩
    have g5 : FrR r H3 H5 := (off_same s4).trans f5
    have eD := off_le _ _ (g5 _ _ (off_some.mpr ⟨hDM, k3⟩))
    refine ⟨_, eD, ?_, h5.put (List.mem_cons_self ..), ?_, ?_⟩
    · unfold zv Vakepb.nats
      rw [List.length_map, List.length_map, List.length_map, List.length_range]
      exact Nat.lt_of_lt_of_le hj (Nat.le_trans hn10 (by decide))
    · rw [off_upd (List.mem_cons_self ..)]
      exact k2.trans (off_cons g5)
    · rw [upd_same, List.range_succ]
      unfold zv Vakepb.nats
      rw [List.map_append, List.map_append, List.map_append] <;> rfl
  rintro H2 ⟨k1, k2, k3⟩
  have hpr := k1.prog
  refine ⟨_, rfl, r.pa, _, _, rfl, off_le _ _ (k2 _ _ (off_less (fun b hb => List.mem_append_right _ hb) _ _ p1)), rfl, _, rfl, r.a, _, _, rfl, k1.obj, rfl, by decide, fun l hl => ?_⟩
  have s3 := same_new (o := .lst []) hl
  refine ⟨D :: L, r, l, [], rfl, k1.same s3, upd_same, by decide, (fun k hk => nomatch hk), fun H4 wl f4 h4 e4 => ?_⟩
  have g4 : FrR r H2 H4 := (off_same s3).trans f4
  have hlt : ∀ k ∈ reachedBy r.p r.m [], k < r.p.parts.length := fun k hk => reached_lt hk
  have hl10 : (reachedBy r.p r.m []).length ≤ 10 := Nat.le_trans (le_of_lt (asc_nodup (asc_reached _ _ _)) hlt) hn10
  refine ⟨r.pa, wl, r.p, reachedBy r.p r.m [], rfl, h4.prog.same off_le, hw, off_le _ _ e4, hl10, hlt, fun H5 s5 => ⟨by show 1 ≤ sizeLine; decide, fun l1 hl1 => ?_⟩⟩
  have s6 := same_new (o := .lst [V.int (sizeOf_ r.p (reachedBy r.p r.m []) : Nat)]) hl1
  have eD := s6 _ _ (s5 _ _ (off_le _ _ (g4 _ _ (off_some.mpr ⟨hDM, k3⟩))))
  have hzl : (zv (Vakepb.nats ((List.range r.p.parts.length).map fun k => sizeOf_ r.p (lost r.p r.m [k])))).length = r.p.parts.length := by
    unfold zv Vakepb.nats
    rw [List.length_map, List.length_map, List.length_map, List.length_range]
  refine ⟨_, rfl, l1, D, _, _, rfl, rfl, upd_same, eD, ?_, fun b hb => ?_⟩
  · rw [hzl]
    exact Nat.le_trans (show 1 + r.p.parts.length ≤ 11 by omega) (by decide)
  have s56 := s5.trans s6
  have fr0 : FrR r H2 (upd H5 l1 (.lst [V.int (sizeOf_ r.p (reachedBy r.p r.m []) : Nat)])) := g4.trans (off_same s56)
  have fr : FrR r H (upd H5 l1 (.lst [V.int (sizeOf_ r.p (reachedBy r.p r.m []) : Nat)])) := k2.trans ((off_less fun b hb => List.mem_cons_of_mem _ hb).trans fr0)
  have h6 := h4.same s56
  have s7 := same_new (o := .lst ([V.int (sizeOf_ r.p (reachedBy r.p r.m []) : Nat)] ++ zv (Vakepb.nats ((List.range r.p.parts.length).map fun k => sizeOf_ r.p (lost r.p r.m [k]))))) hb
  refine q _ b (fr.trans (off_same s7)) ((h6.same s7).close fun x hx => List.mem_cons_of_mem _ hx) (fr_free fr h6 hb) ?_
  rw [upd_same]
  rfl
abbrev N_around : List Str := ["reach", "part", "goal", "found"]
abbrev P_around : List Str := ["reach", "part", "goal"]
theorem sc_around : FnScope N_around P_around (defScope s_around) := ⟨rfl, rfl, rfl, by decide +kernel, rfl, by decide +kernel, by decide +kernel⟩
def aroundAns (p : Prog) (k g : Nat) : List Int := match Vakepb.around p k g with
  | none => [0]
  | some c => 1 :: listRow c
def sp_around (K : PySem.W.Frag) : Sp := fun vs H Q _ => ∃ (L : List Addr) (r : Rch) (k g : Nat), vs = [.ref r.a, .int k, .int g] ∧ ReachS K L H r ∧ r.m = 1 ∧ ∀ H' l, Same H H' → H l = none → H' l = some (.lst (zv (aroundAns r.p k g))) → Q (.ref l) H'
theorem ok_around (T : Tx K mg) (D_chains_by : Df P w K mg base CX0 (1) (He.ga K "chains_by") P_chains_by (sp_chains_by K)) (D_counted : Df P w K mg base CX0 (1) (He.ga K "counted") P_counted sp_counted) : Df P w K mg base CX0 (3) (He.ga K "around") P_around (sp_around K) := by
  refine df_mk (F_around T) sc_around (fun _ _ _ _ _ _ us hl => match us, hl with | [_, _, _], _ => rfl) (fun vs H Q E h => by obtain ⟨_, _, _, _, rfl, _⟩ := h; rfl) (fun cdv A outer s H vs Q E hr h => ⟨_, (pss_cons (ps_set (i := 3) sc_around.nd rfl (Or.inl rfl) (pe_dget1 (hu_of hr) (pf D_chains_by (g_chains_by T) hr (pa_cons (pe_ix ix_list (pe_fld (pv 0) rfl) pe_int (fun _ _ => rfl)) (pa_cons (pe_fld (pe_fld (pv 0) rfl) rfl) (pa_cons (pe_lst (pa_cons (pv 1) pa_nil)) pa_nil)))) (pv 2) ⟨rfl, rfl, rfl, rfl⟩)) (pss_one (ps_ret (pe_ifExp (pt_cmpR op_isN (pv 3) pe_non (nomark _)) (pe_lst (pa_cons pe_int pa_nil)) (pe_op op_cat (pe_lst (pa_cons pe_int pa_nil)) (pf D_counted (g_counted T) hr (pa_cons (pv 3) pa_nil))))))), ?_⟩)
  obtain ⟨L, r, k, g, rfl, h, hm, q⟩ := h
  have hw := h.wf
  obtain ⟨dxP, lS, lP, lE, dN, sa, pl, p1, p2, p3, p4, p5, p6, p7⟩ := id h.prog
  obtain ⟨_, R, htv, ts, hR, hts⟩ : r.m < 2 ∧ ∃ R, r.tv = .ref R ∧ TabsAt (Off (L ++ r.M) H) R (tables r.p r.m) := by
    rcases h.tabs with ⟨z, _⟩ | z
    · omega
    · exact z
  have hobj : H r.a = some (.ins (He.ga K "Reach") r.dx [("program", .ref r.pa), ("tables", .ref R), ("known", .ref r.dk)]) := by
    rw [← htv]
    exact h.obj
  have htab : tables r.p r.m = [nextAny r.p] := by
    unfold tables
    rw [if_neg (by omega)]
  rw [htab] at hts
  obtain ⟨ta, hta, hat⟩ := hts.at_ (i := 0) (x := nextAny r.p) rfl
  have hix : atI (ts.map V.ref) (0 : Int) = some (.ref ta) := atI_nat (j := 0) (by rw [List.getElem?_map, hta] <;> rfl)
  have htl : (nextAny r.p).length = r.p.parts.length := by
    unfold nextAny
    rw [List.length_map, List.length_range]
  obtain ⟨o1, o2, o3⟩ := found_ok (t := nextAny r.p) (away := [k]) (rows_any r.p) hw.en hw.eg
  refine ⟨_, rfl, r.a, _, r.dx, _, _, rfl, hobj, c_Reach T, n_Reach_tables T, rfl, R, _, _, _, rfl, rfl, SqL.of (off_le _ _ hR), hix, _, rfl, r.a, _, r.dx, _, _, rfl, hobj, c_Reach T, n_Reach_program T, rfl, r.pa, _, dxP, _, _, rfl, off_le _ _ p1, c_Program T, n_Program_entries T, rfl, _, rfl, by show 1 ≤ sizeLine; decide, fun l hl => ?_⟩
  have s1 := same_new (o := .lst [V.int k]) hl
  refine ⟨ta, lE, l, nextAny r.p, r.p.starts, [k], r.p.parts.length, rfl, (hat.same off_le).same s1, s1 _ _ (off_le _ _ p6), .inl upd_same, hw.en, hw.eg, rows_any r.p, htl, hw.p10, fun H2 d s2 hd hch => ?_⟩
  obtain ⟨as, g1, g2⟩ := hch
  have hal := g2.len
  have k2 := s1.trans s2
  refine ⟨d, rfl, .inl ⟨_, .inl g1⟩, _, rfl, _, DGet.k (k := Sum.inl (g : Int)) g1, ?_⟩
  have hA : aroundAns r.p k g = match (found r.p.parts.length (nextAny r.p) r.p.starts [k]).find? (fun c => c.getLast? == some g) with
    | none => [0]
    | some c => 1 :: listRow c := by
    unfold aroundAns
    rw [around_eq]
  rcases ch_get g hal fun c hc => (o3 c hc).1 with ⟨h1, h2⟩ | ⟨c, ic, a, h1, h2, h3, h4⟩
  · rw [h2]
    rw [h1] at hA
    refine ⟨_, rfl, rfl, _, rfl, iteD (fun _ => ?_) (fun z => absurd rfl z)⟩
    refine ⟨by show 1 ≤ sizeLine; decide, fun b hb => ?_⟩
    refine q _ b (k2.trans (same_new hb)) (k2.free hb) ?_
    rw [upd_same, hA] <;> rfl
  · rw [h4]
    rw [h1] at hA
    have hcl := (o3 c (List.mem_of_getElem? h2)).2
    obtain ⟨a', ha', hac⟩ := g2.at_ h2
    rw [h3] at ha'
    cases ha'
    have hlen : (iv c).length = c.length := List.length_map _
    refine ⟨_, rfl, rfl, _, rfl, iteD (fun z => nomatch z) (fun _ => ?_)⟩
    refine ⟨by show 1 ≤ sizeLine; decide, fun l1 hl1 => ?_⟩
    have s5 := same_new (o := .lst [V.int 1]) hl1
    refine ⟨_, rfl, a, _, rfl, s5 _ _ hac, by rw [hlen]; exact Nat.le_trans hcl (Nat.le_trans hw.p10 (by decide)), fun H6 l2 s6 hl2 e6 => ?_⟩
    have e5 := s6 _ _ (upd_same : upd H2 l1 (.lst [V.int 1]) l1 = _)
    refine ⟨l1, l2, _, _, rfl, rfl, e5, e6, ?_, fun b hb => ?_⟩
    · show 1 + ((iv c).length + 1) ≤ sizeLine
      rw [hlen]
      exact Nat.le_trans (show 1 + (c.length + 1) ≤ 12 by have := hw.p10; omega) (by decide)
    have k7 := (k2.trans s5).trans s6
    refine q _ b (k7.trans (same_new hb)) (k7.free hb) ?_
    rw [upd_same, hA, hlen]
    show some (HO.lst (V.int 1 :: (V.int (c.length : Nat) :: iv c))) = some (.lst (zv (1 :: listRow c)))
    rw [zv_row] <;> rfl
abbrev N_both : List Str := ["reach", "one", "other", "alone", "only", "sizes", "number", "away"]
abbrev P_both : List Str := ["reach", "one", "other"]
theorem sc_both : FnScope N_both P_both (defScope s_both) := ⟨rfl, rfl, rfl, by decide +kernel, rfl, by decide +kernel, by decide +kernel⟩
def bothAns (p : Prog) (m k g : Nat) : List Int := (sizeOf_ p (lost p m [k, g]) : Int) :: (Vakepb.nats [sizeOf_ p (lost p m [k]), sizeOf_ p (lost p m [g])] ++ listRow ((lost p m [k, g]).filter fun j => !(lost p m [k]).contains j && !(lost p m [g]).contains j))
def sp_both (K : PySem.W.Frag) : Sp := fun vs H Q _ => ∃ (L : List Addr) (r : Rch) (k g : Nat), vs = [.ref r.a, .int k, .int g] ∧ ReachS K L H r ∧ k < r.p.parts.length ∧ g < r.p.parts.length ∧ ∀ H' l, FrR r H H' → ReachS K L H' r → H l = none → H' l = some (.lst (zv (bothAns r.p r.m k g))) → Q (.ref l) H'
theorem ok_both (T : Tx K mg) (D_Reach_size_lost : Df P w K mg base CX0 (99) (He.ma K (He.ga K "Reach") "size_lost") P_Reach_size_lost (sp_size_lost K)) (D_Reach_lost_with : Df P w K mg base CX0 (98) (He.ma K (He.ga K "Reach") "lost_with") P_Reach_lost_with (sp_lost_with K)) (D_counted : Df P w K mg base CX0 (1) (He.ga K "counted") P_counted sp_counted) : Df P w K mg base CX0 (100) (He.ga K "both") P_both (sp_both K) := by
  refine df_mk (F_both T) sc_both (fun _ _ _ _ _ _ us hl => match us, hl with | [_, _, _], _ => rfl) (fun vs H Q E h => by obtain ⟨_, _, _, _, rfl, _⟩ := h; rfl) (fun cdv A outer s H vs Q E hr h => ⟨_, (pss_cons (ps_set (i := 3) sc_both.nd rfl (Or.inr rfl) (pe_op op_cat (pm D_Reach_lost_with (c_Reach T) (m_Reach_lost_with T)  hr (pv 0) (pa_cons (pe_lst (pa_cons (pv 1) pa_nil)) pa_nil)) (pm D_Reach_lost_with (c_Reach T) (m_Reach_lost_with T)  hr (pv 0) (pa_cons (pe_lst (pa_cons (pv 2) pa_nil)) pa_nil)))) (pss_cons (ps_setLc (i := 4) rfl sc_both.nd rfl rfl (sw_true rfl rfl rfl (by decide +kernel)) (own := [("number", 6)]) (pi_list (pm D_Reach_lost_with (c_Reach T) (m_Reach_lost_with T)  hr (pv 0) (pa_cons (pe_lst (pa_cons (pv 1) (pa_cons (pv 2) pa_nil))) pa_nil))) (blkOk_by (own := [("number", 6)]) (N := N_both) (sc := defScope s_both) (by decide +kernel)) (fun _ _ _ _ _ => pg_name (i := 6) sc_both.nd rfl (Or.inl rfl)) (fun _ _ _ _ _ => pts_one ((pt_cmpR (op_notInK (K := K) rfl) (pv 6) (pv 3) (by rfl)))) (fun _ _ _ _ _ => (pv 6))) (pss_cons (ps_setLc (i := 5) rfl sc_both.nd rfl rfl (sw_true rfl rfl rfl (by decide +kernel)) (own := [("away", 7)]) (pi_tup (pe_tup (pa_cons (pe_lst (pa_cons (pv 1) (pa_cons (pv 2) pa_nil))) (pa_cons (pe_lst (pa_cons (pv 1) pa_nil)) (pa_cons (pe_lst (pa_cons (pv 2) pa_nil)) pa_nil))))) (blkOk_by (own := [("away", 7)]) (N := N_both) (sc := defScope s_both) (by decide +kernel)) (fun _ _ _ _ _ => pg_name (i := 7) sc_both.nd rfl (Or.inl rfl)) (fun _ _ _ _ _ => pts_nil) (fun _ _ _ _ _ => (pm D_Reach_size_lost (c_Reach T) (m_Reach_size_lost T)  hr (pv 0) (pa_cons (pv 7) pa_nil)))) (pss_one (ps_ret (pe_op op_cat (pv 5) (pf D_counted (g_counted T) hr (pa_cons (pv 4) pa_nil)))))))), ?_⟩)
  obtain ⟨L, r, k, g, rfl, h, hk, hg, q⟩ := h
  have hw := h.wf
  have onek : ∀ j ∈ [k], j < r.p.parts.length := fun j hj => by rw [List.mem_singleton.mp hj]; exact hk
  have oneg : ∀ j ∈ [g], j < r.p.parts.length := fun j hj => by rw [List.mem_singleton.mp hj]; exact hg
  have two : ∀ j ∈ [k, g], j < r.p.parts.length := fun j hj => by
    rcases List.mem_cons.mp hj with rfl | hj
    · exact hk
    · exact oneg j hj
  have lk := lost_few hw r.m [k]
  have lg := lost_few hw r.m [g]
  have lkg := lost_few hw r.m [k, g]
  have il : ∀ l : List Nat, (iv l).length = l.length := fun l => List.length_map _
  -- what is lost with either
  refine ⟨_, rfl, r.a, _, _, rfl, h.obj, rfl, _, rfl, by show 1 ≤ sizeLine; decide, fun a1 ha1 => ?_⟩
  have s1 := same_new (o := .lst [V.int k]) ha1
  refine ⟨L, r, a1, [k], rfl, h.same s1, upd_same, (by show 1 ≤ 2; decide), onek, fun H2 l2 f2 h2 e2 => ?_⟩
  refine ⟨_, rfl, r.a, _, _, rfl, h2.obj, rfl, _, rfl, by show 1 ≤ sizeLine; decide, fun a3 ha3 => ?_⟩
  have s3 := same_new (o := .lst [V.int g]) ha3
  refine ⟨L, r, a3, [g], rfl, h2.same s3, upd_same, (by show 1 ≤ 2; decide), oneg, fun H4 l4 f4 h4 e4 => ?_⟩
  have g4 : FrR r H2 H4 := (off_same s3).trans f4
  refine ⟨l2, l4, _, _, rfl, rfl, off_le _ _ (g4 _ _ e2), off_le _ _ e4, ?_, fun al hal => ?_⟩
  · rw [il, il]
    exact Nat.le_trans (Nat.add_le_add lk lg) (by decide)
  have s5 := same_new (o := .lst (iv (lost r.p r.m [k]) ++ iv (lost r.p r.m [g]))) hal
  have e5 : upd H4 al (.lst (iv (lost r.p r.m [k]) ++ iv (lost r.p r.m [g]))) al = some (.lst (iv (lost r.p r.m [k] ++ lost r.p r.m [g]))) := by
    rw [upd_same]
    unfold iv
    rw [List.map_append]
  have hal2 := not_dk h4 hal
  have h5 := h4.same s5
  have f5 : FrR r H _ := ((off_same s1).trans f2).trans (g4.trans (off_same s5))
  have e5' : Off r.M _ al = _ := off_some.mpr ⟨hal2, e5⟩
  -- what only both lose
  refine ⟨_, rfl, r.a, _, _, rfl, h5.obj, rfl, _, rfl, _, rfl, by show 2 ≤ sizeLine; decide, fun a6 ha6 => ?_⟩
  have s6 := same_new (o := .lst [V.int k, V.int g]) ha6
  refine ⟨L, r, a6, [k, g], rfl, h5.same s6, upd_same, (by show 2 ≤ 2; decide), two, fun H7 l7 f7 h7 e7 => ?_⟩
  have g7 : FrR r H H7 := f5.trans ((off_same s6).trans f7)
  have ea7 := off_le _ _ (((off_same s6).trans f7) _ _ e5')
  refine ⟨l7, rfl, ⟨_, SqL.of (off_le _ _ e7)⟩, fun D hD => ?_⟩
  refine lc_it walk_list (fun j H' => Same H7 H' ∧ H' D = some (.lst (iv (((lost r.p r.m [k, g]).take j).filter fun i => !(lost r.p r.m [k] ++ lost r.p r.m [g]).contains i)))) ⟨same_new hD, upd_same⟩ (fun j H' _ z => SqL.of (z.1 _ _ (off_le _ _ e7))) ?_ ?_
  · rintro j x H8 H9 hj ⟨k1, k2⟩ ⟨rfl, hx⟩
    rw [List.getElem?_map] at hx
    obtain ⟨i, hi, rfl⟩ := Option.map_eq_some_iff.mp hx
    have htk : ((lost r.p r.m [k, g]).take (j + 1)).filter (fun i => !(lost r.p r.m [k] ++ lost r.p r.m [g]).contains i) = ((lost r.p r.m [k, g]).take j).filter (fun i => !(lost r.p r.m [k] ++ lost r.p r.m [g]).contains i) ++ if (lost r.p r.m [k] ++ lost r.p r.m [g]).contains i = true then [] else [i] := by
      rw [List.take_add_one, hi, List.filter_append, Option.toList, List.filter_cons, List.filter_nil]
      cases (lost r.p r.m [k] ++ lost r.p r.m [g]).contains i <;> rfl
    refine ⟨rfl, _, rfl, _, rfl, al, _, rfl, .inl (SqL.of (k1 _ _ ea7)), rfl, flat_ints _, _, rfl, ?_⟩
    show if (!inV (.int i) (iv (lost r.p r.m [k] ++ lost r.p r.m [g]))) = true then _ else _
    rw [ints_in]
    refine iteNB (fun hc => ?_) (fun hc => ?_)
    · rw [if_neg (by rw [hc]; decide)] at htk
      refine ⟨_, rfl, _, k2, ?_, same_upd k1 hD, ?_⟩
      · rw [il]
        exact Nat.lt_of_le_of_lt (List.length_filter_le _ _) (Nat.lt_of_le_of_lt (List.length_take_le' _ _) (Nat.lt_of_le_of_lt lkg (by decide)))
      · rw [upd_same, htk]
        unfold iv
        rw [List.map_append] <;> rfl
    · rw [if_pos hc, List.append_nil] at htk
      rw [← htk] at k2
      exact ⟨k1, k2⟩
  rintro H8 ⟨k1, k2⟩
  rw [il, List.take_length] at k2
  have honly : (lost r.p r.m [k, g]).filter (fun i => !(lost r.p r.m [k] ++ lost r.p r.m [g]).contains i) = (lost r.p r.m [k, g]).filter fun j => !(lost r.p r.m [k]).contains j && !(lost r.p r.m [g]).contains j := by
    refine List.filter_congr fun i _ => ?_
    rw [List.contains_append, Bool.not_or]
  rw [honly] at k2
  have h8 := h7.same k1
  have f8 : FrR r H H8 := g7.trans (off_same k1)
  have hDM := not_dk h7 hD
  -- the sizes
  refine ⟨_, rfl, _, rfl, by show 2 ≤ sizeLine; decide, fun b1 hb1 => ?_⟩
  have t1 := same_new (o := .lst [V.int k, V.int g]) hb1
  refine ⟨_, rfl, by show 1 ≤ sizeLine; decide, fun b2 hb2 => ?_⟩
  have t2 := t1.trans (same_new (o := .lst [V.int k]) hb2)
  have c1 := (same_new (o := .lst [V.int k]) hb2) _ _ (upd_same : upd H8 b1 (.lst [V.int k, V.int g]) b1 = _)
  refine ⟨_, rfl, by show 1 ≤ sizeLine; decide, fun b3 hb3 => ?_⟩
  have t3 := t2.trans (same_new (o := .lst [V.int g]) hb3)
  have c1 := (same_new (o := .lst [V.int g]) hb3) _ _ c1
  have c2 := (same_new (o := .lst [V.int g]) hb3) _ _ (upd_same : upd (upd H8 b1 (.lst [V.int k, V.int g])) b2 (.lst [V.int k]) b2 = _)
  refine ⟨by show 3 ≤ sizeLine; decide, fun tp htp => ?_⟩
  have t4 := t3.trans (same_new (o := .tup [V.ref b1, V.ref b2, V.ref b3]) htp)
  have c1 := (same_new (o := .tup [V.ref b1, V.ref b2, V.ref b3]) htp) _ _ c1
  have c2 := (same_new (o := .tup [V.ref b1, V.ref b2, V.ref b3]) htp) _ _ c2
  have c3 := (same_new (o := .tup [V.ref b1, V.ref b2, V.ref b3]) htp) _ _ (upd_same : upd (upd (upd H8 b1 (.lst [V.int k, V.int g])) b2 (.lst [V.int k])) b3 (.lst [V.int g]) b3 = _)
  have c4 : upd (upd (upd (upd H8 b1 (.lst [V.int k, V.int g])) b2 (.lst [V.int k])) b3 (.lst [V.int g])) tp (.tup [V.ref b1, V.ref b2, V.ref b3]) tp = some (.tup [V.ref b1, V.ref b2, V.ref b3]) := upd_same
  have h9 := h8.same t4
  have eO := t4 _ _ k2
  have f9 : FrR r H _ := f8.trans (off_same t4)
  have nb1 : b1 ∉ r.M := not_dk h8 hb1
  have nb2 : b2 ∉ r.M := not_dk (h8.same t1) hb2
  have nb3 : b3 ∉ r.M := not_dk (h8.same t2) hb3
  have ntp : tp ∉ r.M := not_dk (h8.same t3) htp
  generalize upd (upd (upd (upd H8 b1 (.lst [V.int k, V.int g])) b2 (.lst [V.int k])) b3 (.lst [V.int g])) tp (.tup [V.ref b1, V.ref b2, V.ref b3]) = H9 at c1 c2 c3 c4 h9 eO f9 ⊢
  have hA : AtAll (fun a (aw : List Nat) => Off r.M H9 a = some (.lst (iv aw)) ∧ aw.length ≤ 2 ∧ ∀ i ∈ aw, i < r.p.parts.length) [b1, b2, b3] [[k, g], [k], [g]] :=
    .cons ⟨off_some.mpr ⟨nb1, c1⟩, Nat.le_refl 2, two⟩ (.cons ⟨off_some.mpr ⟨nb2, c2⟩, (by show 1 ≤ 2; decide), onek⟩ (.cons ⟨off_some.mpr ⟨nb3, c3⟩, (by show 1 ≤ 2; decide), oneg⟩ .nil))
  have c4' : H9 tp = some (.tup ([b1, b2, b3].map V.ref)) := c4
  refine ⟨tp, rfl, ⟨_, SqT.of c4'⟩, fun E hE => ?_⟩
  have hEM := not_dk h9 hE
  have f10 : Same (Off r.M H9) (Off (E :: r.M) (upd H9 E (.lst []))) := fun b o e => by
    obtain ⟨z1, z2⟩ := off_some.mp e
    have hb : b ≠ E := ne_of_none z2 hE
    exact off_some.mpr ⟨fun z => (List.mem_cons.mp z).elim hb z1, by rw [upd_ne hb]; exact z2⟩
  refine lc_it walk_tup (fun j H' => ReachS K (E :: L) H' r ∧ Same (Off r.M H9) (Off (E :: r.M) H') ∧ H' E = some (.lst (zv (Vakepb.nats ((([[k, g], [k], [g]] : List (List Nat)).take j).map fun aw => sizeOf_ r.p (lost r.p r.m aw)))))) ⟨h9.open_ hE, f10, upd_same⟩ (fun j H' _ z => SqT.of (off_le _ _ (z.2.1 _ _ (off_some.mpr ⟨ntp, c4'⟩)))) ?_ ?_
  · rintro j x H10 H11 hj ⟨w1, w2, w3⟩ ⟨rfl, hx⟩
    rw [List.getElem?_map] at hx
    obtain ⟨a, ha, rfl⟩ := Option.map_eq_some_iff.mp hx
    obtain ⟨aw, haw, z1, z2, z3⟩ := hA.at' ha
    refine ⟨rfl, _, rfl, r.a, _, _, rfl, w1.obj, rfl, _, rfl, E :: L, r, a, aw, rfl, w1, off_le _ _ (w2 _ _ z1), z2, z3, fun H12 f12 h12 => ?_⟩
    have eE := off_le _ _ (f12 _ _ (off_some.mpr ⟨hEM, w3⟩))
    have hj3 : j < 3 := hj
    refine ⟨_, eE, ?_, h12.put (List.mem_cons_self ..), ?_, ?_⟩
    · unfold zv Vakepb.nats
      rw [List.length_map, List.length_map, List.length_map]
      exact Nat.lt_of_le_of_lt (List.length_take_le' _ _) (by show 3 < sizeLine; decide)
    · rw [off_upd (List.mem_cons_self ..)]
      exact w2.trans (off_cons f12)
    · rw [upd_same, List.take_add_one, haw]
      unfold zv Vakepb.nats
      rw [List.map_append, List.map_append, List.map_append] <;> rfl
  · rintro H10 ⟨w1, w2, w3⟩
    have eD10 := off_le _ _ (w2 _ _ (off_some.mpr ⟨hDM, eO⟩))
    have hfl : ((lost r.p r.m [k, g]).filter fun j => !(lost r.p r.m [k]).contains j && !(lost r.p r.m [g]).contains j).length ≤ 10 := Nat.le_trans (List.length_filter_le _ _) lkg
    refine ⟨_, rfl, _, rfl, D, _, rfl, eD10, by rw [il]; omega, fun H11 l11 s11 hl11 e11 => ?_⟩
    refine ⟨E, l11, _, _, rfl, rfl, s11 _ _ w3, e11, ?_, fun b hb => ?_⟩
    · show 3 + ((iv _).length + 1) ≤ sizeLine
      rw [il]
      exact Nat.le_trans (Nat.add_le_add_left (Nat.succ_le_succ hfl) 3) (by decide)
    have fr : FrR r H H11 := f9.trans (w2.trans ((off_less fun b hb => List.mem_cons_of_mem _ hb).trans (off_same s11)))
    have h11 := w1.same s11
    have sn : ∀ o, Same H11 (upd H11 b o) := fun o => same_new hb
    refine q _ b (fr.trans (off_same (sn _))) ((h11.same (sn _)).close fun x hx => List.mem_cons_of_mem _ hx) (fr_free fr h11 hb) ?_
    rw [upd_same, il, zv_row]
    unfold bothAns
    rfl
end
end Vf

set_option Elab.async false
set_option linter.all false
set_option maxRecDepth 100000
set_option maxHeartbeats 4000000
/-! A lambda of one parameter, called by sorted; its calls may change what is known of a Reach. -/
namespace Vf
open PySem PySem.Spec PyProof.Rows L2
open Vakepa (Prog)
open Vakepb (reachedBy lost)
section
variable {P : Program} {w : World} {K : PySem.W.Frag} {mg : Str → Option Value} {base : Heap} {N ps fr : List Str} {q : Str} {params : Arguments} {body : Expr} {scope : Scope} {cl : List (Str × Addr)} {c' f : Addr} {pm ctv : Value} {A : Around} {outer : List Env} {s : Shared} {H : Hp} {us : List Value} {vs : List V} {ws : List (Option V)} {Q : VK} {E : XK} {k : Nat} {tb : TE}
/-- the lambda's words, as the nested def's rules take them -/
abbrev lamF (q : Str) (params : Arguments) (scope : Scope) (cl : List (Str × Addr)) (c' : Addr) : NdefX.NF := ⟨"<lambda>", q, params, [], scope, cl, c'⟩
/-- the lambda is called -/
theorem lam_call (S : NdefX.NScope N ps fr scope) (hf : s.heap.get? f = some (PySem.W.kla_obj "<lambda>" q params body scope cl pm c' ctv)) (hc : H c' = some (LamX.CodeO c' q)) (C : NdefX.CellsAt cl fr ws s.heap H) (r : Vals vs us) (hl : vs.length = ps.length)
    (hbind : bindArgs (PySem.W.kla_fn "<lambda>" q params body scope cl pm (.ref c') ctv) ⟨us, []⟩ = pure (ps.zip us)) (hr : Room (k + 1) A) (e0 : Env0 P w K mg base A outer s H)
    (hbody : Room k (A.deeper (NdefX.envF (lamF q params scope cl c') f s.heap.objs.size)) → PE (NdefX.ncx CX0 P w K mg base N (lamF q params scope cl c') f A outer s H E) body tb) (ht : tb (NdefX.startF N vs ws) H Q) :
    codeAny (model P w) A (.call (.ref f) ⟨us, []⟩) (CR CX0 outer P w H s Q E) s := by
  have lim : s.heap.NoLimit := e0.mod.nolimit.keeps fun b o e => (e0.bs b o e).1
  refine PySem.W.kla_callFunE hr.depth hf rfl S.co S.gen rfl (NdefX.codeO_at e0.hok hc) ?_
  rw [hbind]
  refine wpAny_pure (wpAny_newFunctionEnv S.nocell (fun ⟨n, _⟩ m => S.par n (List.of_mem_zip m).1) (fun g hns hsb => ⟨lim.fresh _ hsb, ?_⟩) S.kind)
  show codeAny _ _ (.expr body (NdefX.envF (lamF q params scope cl c') f s.heap.objs.size)) _ _
  have kp : ∀ b o, s.heap.get? b = some o → g.get? b = some o := fun b o e => hsb.extBut b o (Nat.ne_of_lt (Heap.lt_size e)) (Heap.get?_push_of_some _ e)
  have I : Inv (NdefX.ncx CX0 P w K mg base N (lamF q params scope cl c') f A outer s H E) [] (NdefX.startF N vs ws) H { s with heap := g, toks := s.toks + (ps.zip us).length } := NdefX.inv_startN (F := lamF q params scope cl c') S hr.hd e0 hl r C hns kp
  refine PySem.W.kla_codeExpr (wpAny_mono ((hbody (hr.deeper _)).run [] _ _ _ _ I ht) (fun v t x => ?_) fun e t x => x)
  obtain ⟨y, Hy, J, rv, z⟩ := x
  exact ⟨y, Hy, J.os, J.bare, J.base, J.hok, rv, z⟩
end
section
variable {X : Cx} {pins : List (Addr × Obj)} {σ : L2.St} {H : Hp} {s : Shared}
/-- the lambda is made: all but the table at P stays -/
theorem lam_mk {c P : Addr} {params : Arguments} {body : Expr} {scope : Scope} {pos : Pos} {E Q : Value → Shared → Prop} (I : Inv X pins σ H s) (TB : LamX.TabB X.base X.mg c P) (hcode : X.env.code = .ref c) (hT : LamX.TabS H P (X.env.qual ++ "<lambda>"))
    (hdef : defaultsOf params X.env = ([], [])) (hfree : ∀ y ∈ scope.names, y.2 = .free → ∃ c, X.env.cells.lookup y.1 = some c)
    (h : ∀ (f c' : Addr) (pm ctv : Value) (H1 : Hp) (s' : Shared), Inv X pins σ H1 s' → (∀ b o, b ≠ P → H b = some o → H1 b = some o) → (∀ b, H1 b = none → H b = none) → LamX.TabS H1 P (X.env.qual ++ "<lambda>") →
      s'.heap.get? f = some (PySem.W.kla_obj "<lambda>" (X.env.qual ++ "<lambda>") params body scope (cloFrom X.env.cells scope.names []) pm c' ctv) → H1 f = none → f ∉ frs X.stack → H1 c' = some (LamX.CodeO c' (X.env.qual ++ "<lambda>")) → Q (.ref f) s') :
    wpAny (model X.prog X.w) X.A (eval (.Lambda params body scope pos) X.env) Q E s := by
  obtain ⟨ps, tP, tk, ta⟩ := hT
  have bP := TB.bm.keeps I.bk
  have oP : s.heap.get? P = some { cls := .none, data := .fields ps } := I.hok P _ tP
  have high : ∀ g, s.heap.objs.size ≤ g → g ∉ frs X.stack := fun g hg m => by
    rcases List.mem_cons.mp (I.stkSub _ m) with z | z
    · exact absurd I.lt (by rw [← z]; exact Nat.not_lt.mpr hg)
    · exact I.nofs hg z
  refine PySem.W.kla_eval hdef ?_
  cases hq : codeAmong pos ps.toList with
  | some cv =>
    obtain ⟨c', rfl, hco⟩ := ta pos cv hq
    refine PySem.W.kla_makeFunctionHit (mg := X.mg) (c := c) (P := P) (ps := ps) (closure_ok hfree) I.ok.glob (I.mod.glob.keeps I.bk) hcode (TB.code.keeps I.bk) oP tk hq bP fun ctv g t hx hsz => ?_
    exact h g.objs.size c' _ ctv H _ (I.kept fun b o e => Heap.get?_push_of_some _ (hx b o e)) (fun b o _ e => e) (fun b e => e) ⟨ps, tP, tk, ta⟩ (Heap.get?_push_size _ rfl) (I.hok.fresh hsz) (high _ hsz) hco
  | none =>
    refine PySem.W.kla_makeFunction (mg := X.mg) (c := c) (P := P) (ps := ps) (closure_ok hfree) I.ok.glob (I.mod.glob.keeps I.bk) hcode (TB.code.keeps I.bk) oP tk hq TB.gP bP fun c' ctv g t hx hge hlt hrec htb => ?_
    obtain ⟨_, oc, us, tq, e2, hoc, hd, hv⟩ := hrec
    cases e2
    have up : s.heap.objs.size ≤ g.objs.size := Nat.le_trans hge (Nat.le_of_lt hlt)
    have fc : H c' = none := I.hok.fresh hge
    have nPc : P ≠ c' := ne_of_none tP fc
    have J := LamX.inv_table (t' := t) (more := #[rawInt pos.line, rawInt pos.col, .ref c']) (h' := g.push (PySem.W.kla_obj "<lambda>" (X.env.qual ++ "<lambda>") params body scope (cloFrom X.env.cells scope.names []) ((X.mg "__name__").getD .none) c' ctv)) I tP
      (fun b o hb e => Heap.get?_push_of_some _ (hx b o hb e)) (Heap.get?_push_of_some _ htb) hge ⟨oc, us, tq, Heap.get?_push_of_some _ hoc, hd, hv⟩
    have keep : ∀ b o, b ≠ P → H b = some o → upd (upd H P (.tbl (ps ++ #[rawInt pos.line, rawInt pos.col, .ref c']))) c' (LamX.CodeO c' (X.env.qual ++ "<lambda>")) b = some o := fun b o n e => by
      rw [upd_ne (ne_of_none e fc), upd_ne n]
      exact e
    refine h g.objs.size c' _ ctv _ _ J keep (fun b e => NdefX.upd_none (NdefX.upd_none e)) ⟨_, by rw [upd_ne nPc, upd_same], ?_, fun p2 cv e => ?_⟩ (Heap.get?_push_size _ rfl) ?_ (high _ up) upd_same
    · rw [Array.toList_append]
      exact PySem.TriplesOk_snoc _ _ _ _ tk
    · rw [Array.toList_append] at e
      rcases LamX.among_app _ tk e with z | z
      · obtain ⟨c0, a1, a2⟩ := ta p2 cv z
        refine ⟨c0, a1, keep _ _ (fun y => ?_) a2⟩
        rw [y, tP] at a2
        exact LamX.codeO_ne ps (Option.some.inj a2).symm
      · exact ⟨c', z, upd_same⟩
    · rw [upd_ne (Nat.ne_of_gt hlt), upd_ne (Nat.ne_of_gt (Nat.lt_of_lt_of_le (Heap.lt_size oP) up))]
      exact I.hok.fresh up
end
end Vf

set_option Elab.async false
set_option linter.all false
set_option maxRecDepth 100000
set_option maxHeartbeats 4000000
/-! sorted(.., key=..) whose calls change what is known of a Reach. -/
namespace Vf
open PySem PySem.Spec PyProof.Rows L2 PySem.W
open Vakepa (Prog)
open Vakepb (reachedBy lost)
/-- the key of a part: the heaviest first -/
def keyD (p : Prog) (m k : Nat) : PyData := .tuple [.int (-(wt p m k : Int)), .int (k : Int)]
def keyV (p : Prog) (m k : Nat) : HO := .tup [V.int (-(wt p m k : Int)), V.int (k : Int)]
theorem tup_reads {P : Program} {w : World} {H : Hp} {h : Heap} {T : Addr} {p : Prog} {m k : Nat} (hok : HOk P w H h) (e : H T = some (keyV p m k)) : Reads h (.ref T) (keyD p m k) [] := by
  obtain ⟨_, its, r, o, ho, hc, n, hd⟩ := hok T _ e
  obtain ⟨u1, u2, rfl, r1, r2⟩ := vals2 r
  obtain ⟨t1, rfl⟩ := r1
  obtain ⟨t2, rfl⟩ := r2
  exact .tuple ho hc hd (.cons (.int _ _) (.cons (.int _ _) .nil))
theorem keys_read {P : Program} {w : World} {H : Hp} {h : Heap} {M : List Addr} {p : Prog} {m : Nat} (hok : HOk P w H h) : ∀ {Ts : List Addr} {ks : List Nat} {vs : List Value}, AtAll (fun T k => T ∉ M ∧ H T = some (keyV p m k)) Ts ks → Vals (Ts.map V.ref) vs → EachIs (fun v d => ∃ as, Reads h v d as) vs (ks.map (keyD p m))
  | _, _, _, .nil, r => by
    cases r
    exact .nil
  | _, _, _, .cons e t, r => by
    cases r with
    | cons r1 r2 =>
      cases r1
      exact .cons ⟨[], tup_reads hok e.2⟩ (keys_read hok t r2)
theorem ints_each : ∀ {ks : List Nat} {vs : List Value}, IntsAre vs (toZ ks) → EachIs (fun v (k : Nat) => ∃ t, v = .int (k : Int) t) vs ks
  | [], _, h => by
    cases h
    exact .nil
  | k :: ks, _, h => by
    cases h
    rename_i h2
    exact .cons ⟨_, rfl⟩ (ints_each h2)
theorem each_vals : ∀ {ks : List Nat} {vs : List Value}, EachIs (fun v (k : Nat) => ∃ t, v = .int (k : Int) t) vs ks → Vals (iv ks) vs
  | [], _, h => by
    cases h
    exact .nil
  | k :: ks, _, h => by
    cases h with
    | cons a b => exact .cons a (each_vals b)
theorem each_at : ∀ {ks : List Nat} {vs : List Value} {j : Nat} {x : Value}, EachIs (fun v (k : Nat) => ∃ t, v = .int (k : Int) t) vs ks → vs[j]? = some x → ∃ k, ks[j]? = some k ∧ ∃ t, x = .int (k : Int) t
  | _, _, _, _, .nil, h => by simp at h
  | k :: ks, v :: vs, 0, x, .cons a b, h => by
    simp at h
    subst h
    exact ⟨k, rfl, a⟩
  | k :: ks, v :: vs, j + 1, x, .cons a b, h => by
    simp only [List.getElem?_cons_succ] at h ⊢
    exact each_at b h
theorem upd_upd {H : Hp} {a : Addr} {o u : HO} : upd (upd H a o) a u = upd H a u := by
  funext b
  by_cases h : b = a
  · rw [h, upd_same, upd_same]
  · rw [upd_ne h, upd_ne h, upd_ne h]
section
variable {X : Cx} {pins : List (Addr × Obj)} {σ : L2.St} {H : Hp} {s : Shared}
/-- sorted(l, key=f): f's calls may find more of the Reach -/
theorem sort_heavy {r : Rch} {L : List Addr} {ns : List Nat} {l f c' : Addr} {fo : Obj} {q : Str} {Q : VK} (I : Inv X pins σ H s) (hR : ReachS X.K L H r) (hl : H l = some (.lst (iv ns))) (hlen : ns.length ≤ 10)
    (hf : s.heap.get? f = some fo) (nf : H f = none) (ff : f ∉ frs X.stack) (hc : H c' = some (LamX.CodeO c' q)) (hcr : c' ∉ r.M) (hex : X.ex = []) (h0 : ∀ b, X.s_0.heap.objs.size ≤ b → X.H_0 b = none) (hz0 : X.s_0.heap.objs.size ≤ s.heap.objs.size) (hu : X.A.units + 100 < cLine)
    (turn : ∀ (Li : List Addr) (Hi : Hp) (si : Shared) (k : Nat) (t : Tok), k ∈ ns → Inv X pins σ Hi si → ReachS X.K Li Hi r → si.heap.get? f = some fo → Hi c' = some (LamX.CodeO c' q) →
      codeAny (model X.prog X.w) X.A.in1.in1 (.call (.ref f) ⟨[.int (k : Int) t], []⟩) (CR CX0 X.stack X.prog X.w Hi si (fun v H' => ∃ T, v = .ref T ∧ T ∉ r.M ∧ H' T = some (keyV r.p r.m k) ∧ FrR r Hi H' ∧ ReachS X.K Li H' r) E0) si)
    (done : ∀ (a : Addr) (H' : Hp), H a = none → FrR r H H' → ReachS X.K L H' r → Off r.M H' a = some (.lst (iv (ns.mergeSort (dataLe false (keyD r.p r.m))))) → Q (.ref a) H') :
    wpAny (model X.prog X.w) X.A (call (.builtin "sorted") [.ref l] [(Str.ofString "key", .ref f)]) (EP X pins σ Q) X.xe s := by
  obtain ⟨its, rv, hpl, _⟩ := I.list (SqL.of (K := X.K) hl)
  have hi : IntsAre its (toZ ns) := (show Vals ((toZ ns).map V.int) its by rw [toZ_iv]; exact rv).ints
  have hE := ints_each hi
  have hIL := hE.length
  have h10 : (20 : Nat) ≤ sizeLine := by decide
  have hZ : its.length ≤ sizeLine := by omega
  refine sorted_of_sort hpl.isList hZ (ksk_s1 _ _) (fun _ => ksk_l1 _ _) fun E' => ?_
  rw [ksk_t1]
  have ho := copyHeap_at s.heap its
  obtain ⟨e1, ho1⟩ : ∃ e1, ((copyHeap s.heap its).update (s.heap.objs.size + 1) (Obj.mapSeq fun _ => (#[] : Array Value))).get? (s.heap.objs.size + 1) = some (seqObj "list" #[] e1) := ⟨_, get?_update_seq ho fun _ => #[]⟩
  have up : ∀ b o, s.heap.get? b = some o → ((copyHeap s.heap its).update (s.heap.objs.size + 1) (Obj.mapSeq fun _ => (#[] : Array Value))).get? b = some o := fun b o e => by
    rw [(Heap.SameBut.update _ _ _).2 b (Nat.ne_of_lt (Nat.lt_succ_of_lt (Heap.lt_size e)))]
    exact copyHeap_old e
  have hsz1 : s.heap.objs.size + 1 < ((copyHeap s.heap its).update (s.heap.objs.size + 1) (Obj.mapSeq fun _ => (#[] : Array Value))).objs.size := Heap.lt_size ho1
  have na : H (s.heap.objs.size + 1) = none := I.hok.fresh (Nat.le_succ _)
  have hfa : s.heap.get? (s.heap.objs.size + 1) = none := Heap.get?_none_of_le (Nat.le_succ _)
  have hga : s.heap.objs.size ≤ s.heap.objs.size + 1 := Nat.le_succ _
  have hna0 : X.H_0 (s.heap.objs.size + 1) = none := h0 _ (Nat.le_succ_of_le hz0)
  unfold ksk_tree
  refine wpAny_bind (listItems_at ho rfl ?_)
  refine wpAny_bind (listUpdate_at ho rfl ?_ (by rw [List.size_toArray]; exact hZ) (Nat.zero_le _))
  refine wpAny_bind (seqEpoch_at ho1 rfl ?_)
  refine wpAny_bind (wpAny_newTuple ?_ (by show its.length ≤ _; exact hZ))
  refine wpAny_bind (wpAny_newList ?_ (Nat.zero_le _))
  refine wpAny_holding ?_
  dsimp only
  revert ho1 up hsz1
  generalize (copyHeap s.heap its).update (s.heap.objs.size + 1) (Obj.mapSeq fun _ => (#[] : Array Value)) = g1
  revert na hna0 hfa hga
  generalize s.heap.objs.size + 1 = a
  intro na hfa hga hna0 ho1 up hsz1
  have I1 : Inv X pins σ (upd H a (.ext fun h => h.get? a = some (seqObj "list" #[] e1))) { s with heap := g1.push (seqObj "tuple" its.toArray 0) } :=
    I.laidN (t' := s.toks) (fun b u e => Heap.get?_push_of_some _ (up b u e)) hfa na ⟨Heap.get?_push_of_some _ ho1, ⟨_, Heap.get?_push_of_some _ ho1⟩, fun h1 h2 e st => st _ e⟩
  have hsz2 : g1.objs.size + 1 ≤ (g1.push (seqObj "tuple" its.toArray 0)).objs.size := by rw [Heap.size_push]; exact Nat.le_refl _
  have ho2 := Heap.get?_push_of_some (seqObj "tuple" its.toArray 0) ho1
  have up2 : ∀ b o, s.heap.get? b = some o → (g1.push (seqObj "tuple" its.toArray 0)).get? b = some o := fun b o e => Heap.get?_push_of_some _ (up b o e)
  have hzs : s.heap.objs.size ≤ (g1.push (seqObj "tuple" its.toArray 0)).objs.size := Nat.le_trans hga (Nat.le_of_lt (Nat.lt_of_lt_of_le (Nat.lt_succ_of_lt hsz1) hsz2))
  revert I1 ho2 up2 hzs
  generalize g1.push (seqObj "tuple" its.toArray 0) = g2
  intro I1 ho2 up2 hzs
  have I2 : Inv X pins σ (upd (upd H a (.ext fun h => h.get? a = some (seqObj "list" #[] e1))) g2.objs.size (.lst [])) { s with heap := g2.push (seqObj "list" #[] 0) } :=
    I1.laid (a := g2.objs.size) (o := .lst []) (t' := s.toks) (fun b u e => Heap.get?_push_of_some _ e) (Nat.le_refl _) ⟨Nat.zero_le _, [], 0, .nil, Heap.get?_push_size _ rfl⟩
  have nk0 : X.H_0 g2.objs.size = none := h0 _ (Nat.le_trans hz0 hzs)
  have nk : upd H a (.ext fun h => h.get? a = some (seqObj "list" #[] e1)) g2.objs.size = none := I1.hok.fresh (Nat.le_refl _)
  have hka : g2.objs.size ≠ a := Nat.ne_of_gt (Heap.lt_size ho2)
  have nkH : H g2.objs.size = none := (upd_ne hka).symm.trans nk
  have up3 : ∀ b o, s.heap.get? b = some o → (g2.push (seqObj "list" #[] 0)).get? b = some o := fun b o e => Heap.get?_push_of_some _ (up2 b o e)
  have hfk : s.heap.get? g2.objs.size = none := Heap.get?_none_of_le hzs
  clear hzs
  revert I2 up3 nk0 nk hka nkH hfk
  generalize g2.push (seqObj "list" #[] 0) = g3
  generalize g2.objs.size = kS
  intro I2 nk0 nk hka nkH up3 hfk
  have hR2 : ReachS X.K (kS :: a :: L) (upd (upd H a (.ext fun h => h.get? a = some (seqObj "list" #[] e1))) kS (.lst [])) r := (hR.open_ na).open_ nk
  have fr2 : FrR r H (upd (upd H a (.ext fun h => h.get? a = some (seqObj "list" #[] e1))) kS (.lst [])) := off_same ((same_new na).trans (same_new nk))
  have nr : ∀ {b : Addr}, H b = none → b ∉ r.M := fun e => not_dk hR e
  unfold ksk_rest
  refine wpAny_bind (wpAny_rule ?_)
  first
    | rw [List.forIn_toArray]
    | (rw [← Array.forIn_toList]; simp only [List.toList_toArray])
  refine wpAny_bind (ksk_fold (fun i s' => ∃ (Hi : Hp) (Ts : List Addr), Inv X pins σ Hi s' ∧ ReachS X.K (kS :: a :: L) Hi r ∧ FrR r H Hi ∧ Hi a = some (.ext fun h => h.get? a = some (seqObj "list" #[] e1)) ∧ Hi kS = some (.lst (Ts.map V.ref)) ∧
      AtAll (fun T k => T ∉ r.M ∧ Hi T = some (keyV r.p r.m k)) Ts (ns.take i) ∧ s'.heap.get? f = some fo ∧ Hi f = none ∧ Hi c' = some (LamX.CodeO c' q)) its 0 _ ?start ?step ?fin)
  case start =>
    refine ⟨_, [], I2, hR2, fr2, by rw [upd_ne (Ne.symm hka), upd_same], upd_same, by rw [List.take_zero]; exact .nil, up3 _ _ hf, ?_, ?_⟩
    · have n1 : f ≠ kS := fun z => by
        rw [z, hfk] at hf
        cases hf
      have n2 : f ≠ a := fun z => by
        rw [z, hfa] at hf
        cases hf
      rw [upd_ne n1, upd_ne n2]
      exact nf
    · rw [upd_ne (ne_of_none hc nkH), upd_ne (ne_of_none hc na)]
      exact hc
  case step =>
    rintro j x s1 hx ⟨Hi, Ts, J, jR, jf, ja, jk, jT, of1, nf1, hc1⟩
    simp only [Nat.zero_add] at jT ⊢
    obtain ⟨k, hk, t, rfl⟩ : ∃ k, ns[j]? = some k ∧ ∃ t, x = .int (k : Int) t := each_at hE hx
    have hkm : k ∈ ns := List.mem_of_getElem? hk
    refine wpAny_bind (wpAny_attempt (wpAny_call (codeAny_mono (turn _ Hi s1 k t hkm J jR of1 hc1) fun res s2 hq => ?_)))
    cases res with
    | error e => exact (show False from hq).elim
    | ok fl =>
      cases fl with
      | next => exact False.elim hq
      | brk => exact False.elim hq
      | cont => exact False.elim hq
      | ret u =>
        obtain ⟨v, H1, os, bare, un, hok, rv1, T, rfl, nT, eT, fT, jR1⟩ := hq
        cases rv1
        obtain ⟨hh, gn, dr, tk, os2⟩ := s2
        obtain rfl : os2 = s1.os := os
        have J2 : Inv X pins σ H1 { s1 with heap := hh, gens := gn, drawn := dr, toks := tk } := J.call (h' := hh) (g' := gn) (d' := dr) (t' := tk) (ch := []) un hok bare (fun b z => absurd z (by simp))
        have keep : ∀ {b : Addr} {o : HO}, b ∉ r.M → Hi b = some o → H1 b = some o := fun n e => off_le _ _ (fT _ _ (off_some.mpr ⟨n, e⟩))
        have k1 := keep (nr nkH) jk
        obtain ⟨hz, its2, n, rv2, hob⟩ := J2.hok kS _ k1
        have hob : hh.get? kS = some (seqObj "list" its2.toArray n) := hob
        have hl2 : Ts.length ≤ 10 := by
          rw [jT.len, List.length_take]
          omega
        have hl3 : its2.length = Ts.length := by
          rw [← rv2.length, List.length_map]
        obtain ⟨c2, hc2⟩ : ∃ c2, (hh.update kS (Obj.mapSeq (·.push (Value.ref T)))).get? kS = some (seqObj "list" (its2.toArray.push (.ref T)) c2) := ⟨_, get?_update_seq hob (·.push (Value.ref T))⟩
        refine wpAny_bind (listUpdate_at hob rfl ?_ (by rw [List.size_toArray]; omega) (by rw [Array.size_push, List.size_toArray]; omega))
        have J3 := J2.write (x := kS) (e := kS) (o := .lst ((Ts ++ [T]).map V.ref)) (h' := hh.update kS (Obj.mapSeq (·.push (Value.ref T)))) (t' := tk) (by rw [k1]; trivial) (.inl rfl) (fun b u hb e => ((Heap.SameBut.update hh kS _).2 b hb).trans e) ⟨_, hc2⟩
          ⟨by rw [List.length_map, List.length_append]; show Ts.length + 1 ≤ _; omega, its2 ++ [.ref T], c2, by rw [List.map_append]; exact rv2.append (.cons rfl .nil), by
            rw [hc2]
            congr 2
            simp [seqObj]⟩
        have n1 : H1 f = none := un.free f fo of1 nf1 (by simp)
        have o1 : hh.get? f = some fo := un.keep f fo of1 nf1 ff (by simp)
        have nfk : f ≠ kS := fun z => by
          rw [z, k1] at n1
          cases n1
        have nkr : kS ∉ r.M := nr nkH
        have nTk : T ≠ kS := fun z => by
          rw [z, k1] at eT
          cases eT
        refine wpAny_pure ⟨rfl, _, Ts ++ [T], J3, jR1.put (List.mem_cons_self ..), ?_, ?_, upd_same, ?_, ?_, ?_, ?_⟩
        · intro b o e
          obtain ⟨z1, z2⟩ := off_some.mp ((jf.trans fT) b o e)
          have n2 : b ≠ kS := ne_of_none (off_some.mp e).2 nkH
          refine off_some.mpr ⟨z1, ?_⟩
          rw [upd_ne n2]
          exact z2
        · rw [upd_ne (Ne.symm hka)]
          exact keep (nr na) ja
        · rw [List.take_add_one, hk]
          have jT2 : AtAll (fun T2 k2 => T2 ∉ r.M ∧ upd H1 kS (.lst ((Ts ++ [T]).map V.ref)) T2 = some (keyV r.p r.m k2)) Ts (ns.take j) := jT.mono fun T2 k2 z => by
            have z2 := keep z.1 z.2
            have n2 : T2 ≠ kS := fun y => by
              rw [y, k1] at z2
              cases z2
            exact ⟨z.1, by rw [upd_ne n2]; exact z2⟩
          exact jT2.push ⟨nT, by rw [upd_ne nTk]; exact eT⟩
        · show (hh.update kS _).get? f = _
          rw [(Heap.SameBut.update hh kS _).2 f nfk]
          exact o1
        · rw [upd_ne nfk]
          exact n1
        · rw [upd_ne (ne_of_none hc nkH)]
          exact keep hcr hc1
  case fin =>
    rintro s1 ⟨Hi, Ts, J, jR, jf, ja, jk, jT, of1, nf1, hc1⟩
    rw [show ns.take (0 + its.length) = ns from List.take_of_length_le (by omega)] at jT
    obtain ⟨hz, ks, n, rvk, hob⟩ := J.hok kS _ jk
    have hob : s1.heap.get? kS = some (seqObj "list" ks.toArray n) := hob
    have hkl : ks.length = its.length := by
      rw [← rvk.length, List.length_map, jT.len]
      omega
    refine wpAny_bind (listItems_at hob rfl ?_)
    have J1 := J.write (x := kS) (e := kS) (o := .ext fun _ => True) (h' := s1.heap) (t' := s1.toks) (by rw [jk]; trivial) (.inl rfl) (fun b u _ e => e) ⟨_, hob⟩ ⟨trivial, ⟨_, hob⟩, fun _ _ _ _ => trivial⟩
    obtain ⟨G, g5, g6, J2⟩ := J1.untrack upd_same (fr0_none nk0) hex
    have hread := keys_read (M := r.M) (p := r.p) (m := r.m) J.hok jT rvk
    have hal : AllAlike (ns.map (keyD r.p r.m)) := AllAlike.of fun _ _ => by simp [keyD, alike, alikeAll]
    have hsk : Sortable (ns.map (keyD r.p r.m)) := Sortable.tuples fun _ => ⟨_, _, rfl⟩
    have hO := sortVals_each (κ := dataKind s1.heap (ns.map (keyD r.p r.m))) (rev := false) (fun k => keyToks (keyD r.p r.m k)) hE (each_of_map (keyD r.p r.m) (each_keys hal hread))
    refine keyH_end (κ := dataKind s1.heap (ns.map (keyD r.p r.m))) (h₁ := G) (fun b o _ e => g5 b o e) g6 hob (J.hok a _ ja).1 hka (SortsAt.data (s := s1) hread hal hsk fun d hd => ?_) (by rw [List.size_toArray]; exact hkl) hZ fun h3 tk c k3 n3 => ⟨rfl, .ref a, upd (delH (upd Hi kS (.ext fun _ => True)) kS) a (.lst (iv (ns.mergeSort (dataLe false (keyD r.p r.m))))), ?_, rfl, ?_⟩
    · obtain ⟨k, _, rfl⟩ := List.mem_map.mp hd
      have hd2 : (keyD r.p r.m k).depth ≤ 50 := by
        simp [keyD, PyData.depth, PyData.depthAll]
      have : X.A.in1.in1.units = X.A.units + 2 := rfl
      omega
    · refine J2.write (x := a) (e := a) (h' := h3) (t' := tk) (by rw [delH_ne (Ne.symm hka), upd_ne (Ne.symm hka), ja]; trivial) (.inl rfl) (fun b u hb e => k3 b u hb e) ⟨_, n3⟩ ⟨?_, _, c, each_vals hO, n3⟩
      rw [List.length_map, List.length_mergeSort]
      omega
    · have same : ∀ b, b ≠ kS → b ≠ a → upd (delH (upd Hi kS (.ext fun _ => True)) kS) a (.lst (iv (ns.mergeSort (dataLe false (keyD r.p r.m))))) b = Hi b := fun b h1 h2 => by
        rw [upd_ne h2, delH_ne h1, upd_ne h1]
      refine done a _ na (fun b o e => ?_) (jR.via (fun b o e => ?_) (same _ ?_ ?_) (same _ ?_ ?_) hR.na hR.nk fun x hx => ?_) (off_some.mpr ⟨nr na, upd_same⟩)
      · obtain ⟨z1, z2⟩ := off_some.mp (jf b o e)
        have z3 := (off_some.mp e).2
        exact off_some.mpr ⟨z1, by rw [same b (ne_of_none z3 nkH) (ne_of_none z3 na)]; exact z2⟩
      · obtain ⟨z1, z2⟩ := off_some.mp e
        refine off_some.mpr ⟨fun z => z1 ?_, by rw [same b (fun y => z1 (by rw [y]; simp)) (fun y => z1 (by rw [y]; simp))]; exact z2⟩
        rcases List.mem_append.mp z with z | z
        · exact List.mem_append_left _ (List.mem_cons_of_mem _ (List.mem_cons_of_mem _ z))
        · exact List.mem_append_right _ z
      · exact fun z => jR.na (by rw [z]; simp)
      · exact fun z => jR.na (by rw [z]; simp)
      · exact fun z => jR.nk (by rw [z]; simp)
      · exact fun z => jR.nk (by rw [z]; simp)
      · obtain ⟨o, e⟩ := hR.live x hx
        obtain ⟨o2, e2⟩ := jR.live x (List.mem_cons_of_mem _ (List.mem_cons_of_mem _ hx))
        exact ⟨o2, by rw [same x (ne_of_none e nkH) (ne_of_none e na)]; exact e2⟩
end
end Vf

set_option Elab.async false
set_option linter.all false
set_option maxRecDepth 100000
set_option maxHeartbeats 4000000
/-! What each call tells: heavy. -/
namespace Vf
open PySem PySem.Spec PyProof.Rows L2 PySem.W
open Vakepa (Prog)
open Vakepb (reachedBy lost heavier)
abbrev hvQ : Str := ("heavy" : Str) ++ ".<locals>." ++ "<lambda>"
abbrev hvD : He.Defn := ("heavy", none)
/-- the frame of heavy: the table of its code objects grows -/
abbrev FrP (tb : Addr) (r : Rch) (H H' : Hp) : Prop := Same (Off (tb :: r.M) H) (Off (tb :: r.M) H')
theorem ms_heavy (p : Prog) (m : Nat) : heavier p m = ((reachedBy p m []).mergeSort (dataLe false (keyD p m))).map fun k => (k, wt p m k) := by
  have e : dataLe false (keyD p m) = fun (a b : Nat) => decide ((-(wt p m a : Int)) < (-(wt p m b : Int)) ∨ ((-(wt p m a : Int)) = (-(wt p m b : Int)) ∧ (a : Int) ≤ (b : Int))) := dataLe_ii (fun k => -(wt p m k : Int)) fun (k : Nat) => (k : Int)
  have tr : ∀ a b c : Nat, dataLe false (keyD p m) a b = true → dataLe false (keyD p m) b c = true → dataLe false (keyD p m) a c = true := fun a b c h1 h2 => by
    rw [e] at *
    simp only [decide_eq_true_eq] at *
    omega
  have to : ∀ a b : Nat, (dataLe false (keyD p m) a b || dataLe false (keyD p m) b a) = true := fun a b => by
    rw [e]
    simp only [Bool.or_eq_true, decide_eq_true_eq]
    omega
  have hp := List.mergeSort_perm (reachedBy p m []) (dataLe false (keyD p m))
  have hs := List.pairwise_mergeSort (le := dataLe false (keyD p m)) tr to (reachedBy p m [])
  have hn : ((reachedBy p m []).mergeSort (dataLe false (keyD p m))).Nodup := hp.nodup_iff.mpr (asc_nodup (asc_reached _ _ _))
  refine heavier_is hp ((hs.and hn).imp fun {a b} h => ?_)
  obtain ⟨h1, h2⟩ := h
  rw [e] at h1
  simp only [decide_eq_true_eq] at h1
  unfold hvLt
  omega
/-- the table is kept where its objects are -/
theorem tab_fr {H H' : Hp} {M M' : List Addr} {P : Addr} {q : Str} (t : LamX.TabS H P q) (hP : P ∉ M) (hM : ∀ m ∈ M, ∀ c, H m ≠ some (LamX.CodeO c q)) (f : Same (Off M H) (Off M' H')) : LamX.TabS H' P q := by
  obtain ⟨ps, h1, h2, h3⟩ := t
  refine ⟨ps, off_le _ _ (f _ _ (off_some.mpr ⟨hP, h1⟩)), h2, fun pos cv e => ?_⟩
  obtain ⟨c, a1, a2⟩ := h3 pos cv e
  exact ⟨c, a1, off_le _ _ (f _ _ (off_some.mpr ⟨fun z => hM c z c a2, a2⟩))⟩
theorem codeO_dT {c : Addr} {q : Str} {kvs : List (List Key × V)} : HO.dT kvs ≠ LamX.CodeO c q := fun z => by
  unfold LamX.CodeO at z
  cases z
theorem dk_code {K : PySem.W.Frag} {L : List Addr} {H : Hp} {r : Rch} (h : ReachS K L H r) (q : Str) : ∀ m ∈ r.M, ∀ c, H m ≠ some (LamX.CodeO c q) := fun m hm c z => by
  obtain ⟨kvs, e⟩ := h.dk_some
  rw [List.mem_singleton.mp hm, e] at z
  exact codeO_dT (Option.some.inj z)
section
variable {X : Cx} {c tbl : Addr} {k : Nat} {N : List Str} {e1 : Expr} {t : TA} {params : Arguments} {body : Expr} {scope : Scope} {lpos kpos p pos : Pos} {tb : TE}
theorem env_in2 {P : Program} {w : World} {K : PySem.W.Frag} {mg : Str → Option Value} {base : Heap} {A : Around} {outer : List Env} {s : Shared} {H : Hp} (e : Env0 P w K mg base A outer s H) : Env0 P w K mg base A.in1.in1 outer s H :=
  ⟨e.frames, e.mod, e.bs, e.bsz, e.funs, e.frf, e.hok, e.bare⟩
/-- sorted(e1, key=lambda part: ..), reach captured -/
theorem pe_sortLam (ha : PA X [e1] t) (hg : Gl X "sorted") (hm : X.mg "sorted" = none) (TB : LamX.TabB X.base X.mg c tbl) (hcode : X.env.code = .ref c) (hq : X.env.qual ++ "<lambda>" = hvQ) (hdef : defaultsOf params X.env = ([], [])) (S : NdefX.NScope ["part", "reach"] ["part"] ["reach"] scope)
    (hnd : NdefX.ndefB X.env.scope scope ["reach"] = true) (hjs : ([0] : List Nat).map (fun j => X.N[j]?) = (["reach"] : List Str).map some)
    (hbind : ∀ (cl : List (Str × Addr)) (pm cv ctv u : Value), bindArgs (PySem.W.kla_fn "<lambda>" hvQ params body scope cl pm cv ctv) ⟨[u], []⟩ = pure ((["part"] : List Str).zip [u]))
    (hr : Room (k + 3) X.A) (hex : X.ex = []) (h0 : ∀ b, X.s_0.heap.objs.size ≤ b → X.H_0 b = none)
    (hbody : ∀ (A : Around) (s : Shared) (H : Hp) (f c' : Addr) (cl : List (Str × Addr)), Room k (A.deeper (NdefX.envF (lamF hvQ params scope cl c') f s.heap.objs.size)) → PE (NdefX.ncx CX0 X.prog X.w X.K X.mg X.base ["part", "reach"] (lamF hvQ params scope cl c') f A X.stack s H E0) body tb)
    (htb : ∀ (Li : List Addr) (Hi : Hp) (r : Rch) (k : Nat) (Q : VK), ReachS X.K Li Hi r → k < r.p.parts.length → (∀ T H', T ∉ r.M → H' T = some (keyV r.p r.m k) → FrR r Hi H' → ReachS X.K Li H' r → Q (.ref T) H') → tb (NdefX.startF ["part", "reach"] [.int k] [some (.ref r.a)]) Hi Q)
    (hn : "sorted" ≠ ("__name__" : Str) := by decide) (hdb : (("sorted" : Str) == ("__debug__" : Str)) = false := by decide)
    (he : backTo pos (starEach (e1 :: []) X.env) = (false, eval e1 X.env) :: backTo pos (starEach [] X.env) := by rfl) (hpl : (backTo pos (starEach (e1 :: []) X.env)).any (·.1) = false := by rfl) :
    PE X (.Call (.Name "sorted" p) [e1] [⟨some "key", .Lambda params body scope lpos, kpos⟩] pos) (fun σ H Q => t σ H fun vs H1 => ∃ (l : Addr) (r : Rch) (L : List Addr) (ns : List Nat), vs = [.ref l] ∧ ReachS X.K L H1 r ∧ H1 l = some (.lst (iv ns)) ∧ ns.length ≤ 10 ∧ (∀ k ∈ ns, k < r.p.parts.length) ∧
      NdefX.slotAt σ 0 = some (.ref r.a) ∧ tbl ∈ L ∧ LamX.TabS H1 tbl hvQ ∧ ∀ a H2, H1 a = none → FrP tbl r H1 H2 → ReachS X.K L H2 r → LamX.TabS H2 tbl hvQ → Off r.M H2 a = some (.lst (iv (ns.mergeSort (dataLe false (keyD r.p r.m))))) → Q (.ref a) H2) := by
  refine ⟨fun pins s σ H Q I h => ?_⟩
  refine wpAny_Call_Name_kw (ld_blt I hg hm (show bootBuiltins ("sorted" : Str) = some (.builtin "sorted") by decide +kernel) ?_ hn hdb)
  refine PyProof.Rows.callWith_kw (thn (ha.run pos pins s σ H _ I h) fun us s1 ⟨vs, H1, I1, r1, q1⟩ => ?_) he hpl
  obtain ⟨l, r, L, ns, rfl, hR, hl, hlen, hlt, hs0, hin, hT, q1⟩ := q1
  obtain rfl := Vals.ref1 r1
  show wpAny _ _ (evalAll ((do let v ← eval (.Lambda params body scope lpos) X.env; standAt pos; pure v) :: [])) _ _ s1
  have hfr : ∀ y ∈ scope.names, y.2 = .free → ∃ c, X.env.cells.lookup y.1 = some c := fun y hy e => (NdefX.ndef_free hnd y hy e).elim (fun z => I1.ok.has _ (.inl z)) fun z => I1.ok.has _ (.inr z)
  refine wpAny_evalAll_cons (wpAny_bind (lam_mk I1 TB hcode (by rw [hq]; exact hT) hdef hfr fun f c' pm ctv H2 s2 I2 keep nn T2 of2 nf ff hc => wpAny_bind (wpAny_standAt (wpAny_pure (wpAny_evalAll_nil ?_)))))
  rw [hq] at T2 of2 hc
  show wpAny _ _ (call (.builtin "sorted") [.ref l] [(Str.ofString "key", .ref f)]) _ _ _
  obtain ⟨kvs, hdk⟩ := hR.dk_some
  have ndk : r.dk ≠ tbl := fun z => hR.nk (by rw [z]; exact hin)
  have na : r.a ≠ tbl := fun z => hR.na (by rw [z]; exact hin)
  have hR2 : ReachS X.K L H2 r := by
    refine hR.via (fun b o e => ?_) ((keep _ _ na hR.obj).trans hR.obj.symm) ((keep _ _ ndk hdk).trans hdk.symm) hR.na hR.nk fun x hx => ?_
    · obtain ⟨z1, z2⟩ := off_some.mp e
      exact off_some.mpr ⟨z1, keep b o (fun y => z1 (by rw [y]; exact List.mem_append_left _ hin)) z2⟩
    · by_cases hx2 : x = tbl
      · obtain ⟨ps, z, _⟩ := T2
        exact ⟨_, by rw [hx2]; exact z⟩
      · obtain ⟨o, z⟩ := hR.live x hx
        exact ⟨o, keep x o hx2 z⟩
  have ltb : l ≠ tbl := fun z => by
    obtain ⟨ps, y, _⟩ := hT
    rw [z, y] at hl
    cases hl
  have dk2 := (keep _ _ ndk hdk)
  have un : X.A.units + 100 < cLine := by
    have := hr.un
    omega
  have S2 : H2 tbl ≠ none := fun z => by
    obtain ⟨ps, y, _⟩ := T2
    rw [z] at y
    cases y
  refine sort_heavy I2 hR2 (keep _ _ ltb hl) hlen of2 nf ff hc (fun z => ?_) hex h0 I2.sz un (fun Li Hi si k2 tk hk J jR of3 hc3 => ?_) fun a H3 n3 f3 r3 e3 => q1 a H3 (nn a n3) (fun b o e => ?_) r3 ?_ e3
  · rw [List.mem_singleton.mp z, dk2] at hc
    have z2 : HO.dT kvs = LamX.CodeO r.dk hvQ := Option.some.inj hc
    unfold LamX.CodeO at z2
    cases z2
  · have C : NdefX.CellsAt (cloFrom X.env.cells scope.names []) ["reach"] [some (.ref r.a)] si.heap Hi := by
      have z := NdefX.cells_of J (NdefX.Caps.made (fr := ["reach"]) (js := [0]) J.ok (NdefX.ndef_free hnd) (NdefX.ndef_fr hnd) hjs)
      rw [← hs0]
      exact z
    refine lam_call (k := k) (vs := [.int (k2 : Int)]) S of3 hc3 C (.cons ⟨tk, rfl⟩ .nil) rfl (hbind _ _ _ _ _) hr.in1.in1 (env_in2 J.env0) (fun hr2 => hbody _ _ _ _ _ _ hr2) (htb Li Hi r k2 _ jR (hlt k2 hk) fun T H' n e f1 r1 => ⟨T, rfl, n, e, f1, r1⟩)
  · obtain ⟨z1, z2⟩ := off_some.mp e
    have h1 : b ≠ tbl := fun y => z1 (by rw [y]; exact List.mem_cons_self ..)
    have h2 : b ∉ r.M := fun y => z1 (List.mem_cons_of_mem _ y)
    exact off_some.mpr ⟨z1, off_le _ _ (f3 b o (off_some.mpr ⟨h2, keep b o h1 z2⟩))⟩
  · obtain ⟨ps, y, k1, k2⟩ := T2
    have up : ∀ b o, b ≠ r.dk → H2 b = some o → H3 b = some o := fun b o n e => off_le _ _ (f3 b o (off_some.mpr ⟨fun z => n (List.mem_singleton.mp z), e⟩))
    refine ⟨ps, up _ _ (Ne.symm ndk) y, k1, fun pp cv e => ?_⟩
    obtain ⟨c0, a1, a2⟩ := k2 pp cv e
    refine ⟨c0, a1, up _ _ (fun z => ?_) a2⟩
    rw [z, dk2] at a2
    have z2 : HO.dT kvs = LamX.CodeO r.dk hvQ := Option.some.inj a2
    unfold LamX.CodeO at z2
    cases z2
end
section
variable {P : Program} {w : World} {K : PySem.W.Frag} {mg : Str → Option Value} {base : Heap}
/-- heavy by its body: its code object and its table are known -/
theorem df_heavy {k : Nat} {N ps : List Str} {sp : Sp} (F : ∃ fd, Fun K "heavy" "heavy" s_heavy (He.ga K "heavy") fd) (S : FnScope N ps (defScope s_heavy))
    (hb : ∀ (kV doc pm : Value) (an : Option Addr) (cdv ct : Value) (us : List Value), us.length = ps.length → bindArgs (PySem.W.fnOf "heavy" "heavy" (defArgs s_heavy) (defBody s_heavy) (defScope s_heavy) .none kV doc pm an cdv ct) ⟨us, []⟩ = pure (ps.zip us))
    (len : ∀ vs H Q E, sp vs H Q E → vs.length = ps.length)
    (body : ∀ (A : Around) (outer : List Env) (s : Shared) (H : Hp) (vs : List V) (Q : VK) (E : XK), Room k (A.deeper (envOfC "heavy" (defScope s_heavy) s.heap.objs.size (He.ga K "heavy") (.ref (He.codeOf K hvD)))) → HOk P w H s.heap → sp vs H Q E →
      ∃ t, PSs (cxOf CX0 P w K mg base N "heavy" (defScope s_heavy) (He.ga K "heavy") (.ref (He.codeOf K hvD)) A outer s H E).nox (defBody s_heavy) t ∧ t { nx := fun _ H' => Q .non H', rt := Q } (start N vs) H) :
    Df P w K mg base CX0 (k + 1) (He.ga K "heavy") ps sp := by
  obtain ⟨fd, G⟩ := F
  have G2 := G
  obtain ⟨oc, od, kV, doc, pm, an, cdv, ct, osl, rfl, lk, hcd⟩ := G.ex
  obtain ⟨c0, rfl⟩ := He.codeIn_ref hcd
  have e : He.codeOf K hvD = c0 := He.codeOf_eq (p := hvD) lk rfl
  refine ⟨_, ⟨len, fun A outer s H args us vs Q E hr e0 hb2 r hsp => LamX.run_ofS lk hcd S hr e0 hb2 r (len _ _ _ _ hsp) fun hr2 => ?_⟩, G2.kp, G2.binds hb⟩
  subst e
  obtain ⟨t, h, q⟩ := body A outer s H vs Q E hr2 e0.hok hsp
  exact ⟨t, h.nox, q⟩
abbrev N_heavy : List Str := ["reach", "ranked", "part", "answer"]
abbrev P_heavy : List Str := ["reach"]
theorem sc_heavy : FnScope N_heavy P_heavy (defScope s_heavy) := ⟨rfl, rfl, rfl, by decide +kernel, rfl, by decide +kernel, by decide +kernel⟩
def heavyAns (p : Prog) (m : Nat) : List Int := ((heavier p m).length : Int) :: (heavier p m).flatMap fun y => Vakepb.nats [y.1, y.2]
def hvZ (p : Prog) (m k : Nat) : List Int := [(k : Int), (wt p m k : Int)]
def sp_heavy (K : PySem.W.Frag) : Sp := fun vs H Q _ => ∃ (L : List Addr) (r : Rch), vs = [.ref r.a] ∧ ReachS K L H r ∧ (He.cT K hvD).2 ∈ L ∧ LamX.TabS H (He.cT K hvD).2 hvQ ∧
  ∀ H' l, FrP (He.cT K hvD).2 r H H' → ReachS K L H' r → LamX.TabS H' (He.cT K hvD).2 hvQ → H l = none → H' l = some (.lst (zv (heavyAns r.p r.m))) → Q (.ref l) H'
theorem ok_heavy (T : Tx K mg) (TB : LamX.TabB base mg (He.cT K hvD).1 (He.cT K hvD).2) (D_Reach_size_lost : Df P w K mg base CX0 (99) (He.ma K (He.ga K "Reach") "size_lost") P_Reach_size_lost (sp_size_lost K)) (D_Reach_come_to : Df P w K mg base CX0 (97) (He.ma K (He.ga K "Reach") "come_to") P_Reach_come_to (sp_come_to K)) :
    Df P w K mg base CX0 (103) (He.ga K "heavy") P_heavy (sp_heavy K) := by
  refine df_heavy (F_heavy T) sc_heavy (fun _ _ _ _ _ _ us hl => match us, hl with | [_], _ => rfl) (fun vs H Q E h => by obtain ⟨_, _, rfl, _⟩ := h; rfl) (fun A outer s H vs Q E hr hok h => ⟨_,
    (pss_cons (ps_set (i := 1) sc_heavy.nd rfl (Or.inl rfl) (pe_sortLam (k := 99) (pa_cons (pm D_Reach_come_to (c_Reach T) (m_Reach_come_to T) hr (pv 0) (pa_cons (pe_lst pa_nil) pa_nil)) pa_nil) (by rfl) (b_sorted T) TB rfl rfl rfl (NdefX.nscope_by (by decide +kernel)) rfl rfl (fun _ _ _ _ _ => rfl) hr rfl (fun b hb => hok.fresh hb)
      (fun A s H f c' cl hr2 => pe_tup (pa_cons (pe_un un_neg (pm D_Reach_size_lost (c_Reach T) (m_Reach_size_lost T) hr2 (pv 1) (pa_cons (pe_lst (pa_cons (pv 0) pa_nil)) pa_nil))) (pa_cons (pv 0) pa_nil))) ?tb))
    (pss_cons (ps_set (i := 3) sc_heavy.nd rfl (Or.inl rfl) (pe_lst (pa_cons (pe_callB call_len_seq (by rfl) (b_len T) PySem.boot_len (pa_cons (pv 1) pa_nil)) pa_nil)))
    (pss_cons (ps_for PassesOwn.never rfl (pi_list (pv 1)) (pg_name (i := 2) sc_heavy.nd rfl (Or.inl rfl)) (pss_one (ps_expr (pe_bm PySem.F.plainAttrs_list PySem.F.slot_list_extend PySem.F.type_list_extend mt_extend (pv 3) (pa_cons (pe_lst (pa_cons (pv 2) (pa_cons (pm D_Reach_size_lost (c_Reach T) (m_Reach_size_lost T) hr (pv 0) (pa_cons (pe_lst (pa_cons (pv 2) pa_nil)) pa_nil)) pa_nil))) pa_nil)))))
    (pss_one (ps_ret (pv 3)))))), ?body⟩)
  case tb =>
    intro Li Hi r k Q2 h2 hk q2
    have one : ∀ j ∈ [k], j < r.p.parts.length := fun j hj => by rw [List.mem_singleton.mp hj]; exact hk
    refine ⟨_, rfl, r.a, _, _, rfl, h2.obj, rfl, _, rfl, by show 1 ≤ sizeLine; decide, fun a1 ha1 => ?_⟩
    have s1 := same_new (o := .lst [V.int k]) ha1
    refine ⟨Li, r, a1, [k], rfl, h2.same s1, upd_same, (by show 1 ≤ 2; decide), one, fun H3 f3 h3 => ?_⟩
    refine ⟨_, rfl, _, rfl, by show 2 ≤ sizeLine; decide, fun T hT => q2 T _ (not_dk h3 hT) upd_same (((off_same s1).trans f3).trans (off_same (same_new hT))) (h3.same (same_new hT))⟩
  case body =>
    obtain ⟨L, r, rfl, h, hin, hT, q⟩ := h
    have hw := h.wf
    refine ⟨_, rfl, r.a, _, _, rfl, h.obj, rfl, by show 0 ≤ sizeLine; decide, fun a1 ha1 => ?_⟩
    have s1 := same_new (o := .lst []) ha1
    refine ⟨L, r, a1, [], rfl, h.same s1, upd_same, Nat.zero_le _, (fun k hk => nomatch hk), fun H2 l2 f2 h2 e2 => ?_⟩
    have T2 : LamX.TabS H2 (He.cT K hvD).2 hvQ := tab_fr (hT.ext s1) (fun z => h.nk (by rw [← List.mem_singleton.mp z]; exact hin)) (dk_code (h.same s1) hvQ) f2
    have hW10 : (reachedBy r.p r.m []).length ≤ 10 := Nat.le_trans (le_of_lt (asc_nodup (asc_reached _ _ _)) fun k hk => reached_lt hk) hw.p10
    refine ⟨l2, r, L, reachedBy r.p r.m [], rfl, h2, off_le _ _ e2, hW10, fun k hk => reached_lt hk, rfl, hin, T2, fun wl H3 n3 f3 h3 T3 e3 => ?_⟩
    have f03 : FrP (He.cT K hvD).2 r H H3 := (off_cons ((off_same s1).trans f2)).trans f3
    have hlen := List.length_mergeSort (le := dataLe false (keyD r.p r.m)) (reachedBy r.p r.m [])
    have hmem : ∀ k ∈ (reachedBy r.p r.m []).mergeSort (dataLe false (keyD r.p r.m)), k < r.p.parts.length := fun k hk => reached_lt (List.mem_mergeSort.mp hk)
    have hAns : heavyAns r.p r.m = (((reachedBy r.p r.m []).mergeSort (dataLe false (keyD r.p r.m))).length : Int) :: ((reachedBy r.p r.m []).mergeSort (dataLe false (keyD r.p r.m))).flatMap (hvZ r.p r.m) := by
      unfold heavyAns
      rw [ms_heavy, List.length_map, List.flatMap_map]
      rfl
    rw [hAns] at q
    rw [← hlen] at hW10
    clear T2 hAns f3 f2 e2 h2 hlen
    revert q e3 hmem hW10
    generalize (reachedBy r.p r.m []).mergeSort (dataLe false (keyD r.p r.m)) = W
    intro q hW10 e3 hmem
    have hil : (iv W).length = W.length := List.length_map _
    refine ⟨_, rfl, wl, _, rfl, .inl (SqL.of (off_le _ _ e3)), ?_⟩
    rw [hil]
    refine ⟨by show 1 ≤ sizeLine; decide, fun la hla => ?_⟩
    have hlM := not_dk h3 hla
    have h4 := h3.open_ (o := .lst [V.int (W.length : Nat)]) hla
    have f4 : Same (Off r.M H3) (Off (la :: r.M) (upd H3 la (.lst [V.int (W.length : Nat)]))) := fun b o e => by
      obtain ⟨z1, z2⟩ := off_some.mp e
      have hb : b ≠ la := ne_of_none z2 hla
      exact off_some.mpr ⟨fun z => (List.mem_cons.mp z).elim hb z1, by rw [upd_ne hb]; exact z2⟩
    have d4 : upd H3 la (.lst [V.int (W.length : Nat)]) la = some (.lst [V.int (W.length : Nat)]) := upd_same
    generalize upd H3 la (.lst [V.int (W.length : Nat)]) = H4 at h4 f4 d4 ⊢
    refine ⟨_, rfl, wl, rfl, ⟨_, SqL.of (off_le _ _ (f4 _ _ e3))⟩, ?_⟩
    refine for_it walk_list (fun i σ H' => ∃ (x2 : Option V), σ = [some (.ref r.a), some (.ref wl), x2, some (.ref la)] ∧ Same (Off r.M H3) (Off (la :: r.M) H') ∧ ReachS K (la :: L) H' r ∧ H' la = some (.lst (zv ((W.length : Int) :: (W.take i).flatMap (hvZ r.p r.m)))))
      ⟨none, rfl, f4, h4, d4⟩ (fun i σ H' _ ⟨_, _, f, _⟩ => SqL.of (off_le _ _ (f _ _ e3))) ?_ ?_
    · rintro i x σ H5 H6 hi ⟨y2, rfl, k1, k2, k3⟩ ⟨rfl, hx⟩
      unfold iv at hx
      rw [List.getElem?_map] at hx
      obtain ⟨k, hk, rfl⟩ := Option.map_eq_some_iff.mp hx
      have hkm := List.mem_of_getElem? hk
      refine ⟨_, rfl, .inl ⟨rfl, _, SqL.of k3⟩, _, rfl, _, rfl, r.a, _, _, rfl, k2.obj, rfl, _, rfl, by show 1 ≤ sizeLine; decide, fun a1 ha1 => ?_⟩
      have s6 := same_new (o := .lst [V.int k]) ha1
      refine ⟨la :: L, r, a1, [k], rfl, k2.same s6, upd_same, (by show 1 ≤ 2; decide), (fun j hj => by rw [List.mem_singleton.mp hj]; exact hmem k hkm), fun H7 f7 h7 => ?_⟩
      refine ⟨by show 2 ≤ sizeLine; decide, fun l hl => ?_⟩
      have f57 : FrR r H6 H7 := (off_same s6).trans f7
      have a7 : H7 la = some (.lst (zv ((W.length : Int) :: (W.take i).flatMap (hvZ r.p r.m)))) := off_le _ _ (f57 _ _ (off_some.mpr ⟨hlM, k3⟩))
      have s8 := same_new (o := .lst [V.int k, V.int (wt r.p r.m k : Nat)]) hl
      have hsz : (zv ((W.length : Int) :: (W.take i).flatMap (hvZ r.p r.m))).length ≤ 30 := by
        unfold zv
        rw [List.length_map, List.length_cons, List.length_flatMap]
        have : ∀ l : List Nat, (l.map fun (k : Nat) => (hvZ r.p r.m k).length).sum = 2 * l.length := by
          intro l
          induction l with
          | nil => rfl
          | cons a t ih =>
            rw [List.map_cons, List.sum_cons, ih, List.length_cons]
            show 2 + 2 * t.length = _
            omega
        rw [this]
        have := List.length_take_le' i W
        omega
      refine ⟨la, l, _, _, rfl, rfl, s8 _ _ a7, upd_same, Nat.le_trans (Nat.add_le_add hsz (Nat.le_refl 2)) (by decide), ?_⟩
      refine ⟨_, rfl, fun b o e => ?_, (h7.same s8).put (List.mem_cons_self ..), ?_⟩
      · obtain ⟨z1, z2⟩ := off_some.mp (((k1.trans (off_cons f57)).trans (off_same s8)) b o e)
        exact off_some.mpr ⟨z1, by rw [upd_ne (fun z => z1 (by rw [z]; exact List.mem_cons_self ..))]; exact z2⟩
      · rw [upd_same, List.take_add_one, hk]
        unfold zv
        rw [Option.toList, List.flatMap_append, List.flatMap_cons, List.flatMap_nil, List.append_nil, List.map_cons, List.map_cons, List.map_append] <;> rfl
    · rintro σ H5 ⟨y2, rfl, k1, k2, k3⟩
      rw [hil, List.take_length] at k3
      refine ⟨_, rfl, q _ la (fun b o e => ?_) (k2.close fun x hx => List.mem_cons_of_mem _ hx) (tab_fr T3 (fun z => h3.nk (by rw [← List.mem_singleton.mp z]; exact hin)) (dk_code h3 hvQ) k1) ?_ k3⟩
      · obtain ⟨z1, z2⟩ := off_some.mp (f03 b o e)
        have n2 : b ∉ r.M := fun z => z1 (List.mem_cons_of_mem _ z)
        exact off_some.mpr ⟨z1, off_le _ _ (k1 b o (off_some.mpr ⟨n2, z2⟩))⟩
      · cases e : H la with
        | none => rfl
        | some o =>
          by_cases h1 : la = (He.cT K hvD).2
          · obtain ⟨ps, z, _⟩ := T3
            rw [← h1, hla] at z
            cases z
          · have z := off_le _ _ (f03 la o (off_some.mpr ⟨fun z => (List.mem_cons.mp z).elim h1 hlM, e⟩))
            rw [hla] at z
            cases z
end
end Vf

set_option Elab.async false
set_option linter.all false
set_option maxRecDepth 100000
set_option maxHeartbeats 4000000
/-! The calls: their width, their modes, their parts. -/
namespace Vf
open PySem PySem.Spec PyProof.Rows L2
open Vakepa (Prog)
section
variable {P : Program} {w : World} {K : PySem.W.Frag} {mg : Str → Option Value} {base : Heap}
def modesL : List Int := [0, 0, 2, 3, 0, 3, 0, 3, 3]
def partsL : List Int := [0, 0, 1, 1, 0, 0, 2, 2, 0]
theorem md_tup (T : Tx K mg) (H : Hp) : SqT K H (He.ga K "MODES") (modesL.map V.int) := He.tupB_ok (e_1 T) H
theorem pt_tup (T : Tx K mg) (H : Hp) : SqT K H (He.ga K "PARTS") (partsL.map V.int) := He.tupB_ok (e_10 T) H
def mdOf (c : Nat) : Nat := ([0, 0, 2, 3, 0, 3, 0, 3, 3] : List Nat).getD c 0
def ptOf (c : Nat) : Nat := ([0, 0, 1, 1, 0, 0, 2, 2, 0] : List Nat).getD c 0
def wdOf (c : Nat) : Nat := min (mdOf c) 1 + ptOf c
theorem md_at {c : Nat} (h : c < 9) : (modesL.map V.int)[c]? = some (.int (mdOf c : Nat)) := by
  revert c
  decide +kernel
theorem pt_at {c : Nat} (h : c < 9) : (partsL.map V.int)[c]? = some (.int (ptOf c : Nat)) := by
  revert c
  decide +kernel
theorem cut_tail {xs : List V} {i : Nat} (h : i ≤ xs.length) : cutV xs (some (i : Int)) none = xs.drop i := by
  unfold cutV
  rw [HT.sIx_nat, HT.sIx_none, Nat.min_eq_left h]
  exact List.take_of_length_le (by rw [List.length_drop]; exact Nat.le_refl _)
theorem cut_mid {xs : List V} {i j : Nat} (h : i ≤ j) (h2 : j ≤ xs.length) : cutV xs (some (i : Int)) (some (j : Int)) = (xs.drop i).take (j - i) := by
  unfold cutV
  rw [HT.sIx_nat, HT.sIx_nat, Nat.min_eq_left h2, Nat.min_eq_left (Nat.le_trans h h2)]
abbrev N_width_of : List Str := ["call"]
abbrev P_width_of : List Str := ["call"]
theorem sc_width_of : FnScope N_width_of P_width_of (defScope s_width_of) := ⟨rfl, rfl, rfl, by decide +kernel, rfl, by decide +kernel, by decide +kernel⟩
def sp_width_of : Sp := fun vs H Q _ => ∃ c : Nat, vs = [.int c] ∧ c < 9 ∧ Q (.int (wdOf c : Nat)) H
theorem ok_width_of (T : Tx K mg) : Df P w K mg base CX0 (1) (He.ga K "width_of") P_width_of sp_width_of := by
  refine df_mk (F_width_of T) sc_width_of (fun _ _ _ _ _ _ us hl => match us, hl with | [_], _ => rfl) (fun vs H Q E h => by obtain ⟨_, rfl, _⟩ := h; rfl) (fun cdv A outer s H vs Q E hr h => ⟨_, (pss_one (ps_ret (pe_op op_add (pe_callB (call_min2 rfl) (by rfl) (b_min T) (by decide +kernel) (pa_cons (pe_ix ix_tup (pgo (g_MODES T)) (pv 0) (fun _ _ => rfl)) (pa_cons pe_int pa_nil))) (pe_ix ix_tup (pgo (g_PARTS T)) (pv 0) (fun _ _ => rfl))))), ?_⟩)
  obtain ⟨c, rfl, hc, q⟩ := h
  refine ⟨_, rfl, _, _, _, _, rfl, rfl, md_tup T _, atI_nat (md_at hc), _, _, rfl, _, rfl, _, _, _, _, rfl, rfl, pt_tup T _, atI_nat (pt_at hc), _, _, rfl, rfl, ?_⟩
  have e : (if (1 : Int) < (mdOf c : Nat) then (1 : Int) else (mdOf c : Nat)) + (ptOf c : Nat) = (wdOf c : Nat) := by
    unfold wdOf
    split <;> omega
  rw [← e] at q
  exact q
abbrev N_has_mode : List Str := ["call", "values"]
abbrev P_has_mode : List Str := ["call", "values"]
theorem sc_has_mode : FnScope N_has_mode P_has_mode (defScope s_has_mode) := ⟨rfl, rfl, rfl, by decide +kernel, rfl, by decide +kernel, by decide +kernel⟩
def mdB (c : Nat) (zs : List Int) : Bool := mdOf c == 0 || (decide (0 ≤ zs.getD 0 0) && decide (zs.getD 0 0 < (mdOf c : Int)))
def sp_has_mode : Sp := fun vs H Q _ => ∃ (c : Nat) (l : Addr) (zs : List Int), vs = [.int c, .ref l] ∧ c < 9 ∧ H l = some (.lst (zv zs)) ∧ (mdOf c ≠ 0 → 0 < zs.length) ∧ Q (.bl (mdB c zs)) H
theorem ok_has_mode (T : Tx K mg) : Df P w K mg base CX0 (1) (He.ga K "has_mode") P_has_mode sp_has_mode := by
  refine df_mk (F_has_mode T) sc_has_mode (fun _ _ _ _ _ _ us hl => match us, hl with | [_, _], _ => rfl) (fun vs H Q E h => by obtain ⟨_, _, _, rfl, _⟩ := h; rfl) (fun cdv A outer s H vs Q E hr h => ⟨_, (pss_one (ps_ret (pe_or (pe_cmpR op_eq (pe_ix ix_tup (pgo (g_MODES T)) (pv 0) (fun _ _ => rfl)) pe_int (nomark _)) (pe_one (pe_chain op_le op_lt pe_int (pe_ix ix_list (pv 1) pe_int (fun _ _ => rfl)) (pe_ix ix_tup (pgo (g_MODES T)) (pv 0) (fun _ _ => rfl))))))), ?_⟩)
  obtain ⟨c, l, zs, rfl, hc, hl, hz, q⟩ := h
  refine ⟨_, rfl, _, _, _, _, rfl, rfl, md_tup T _, atI_nat (md_at hc), rfl, _, rfl, ?_⟩
  have e0 : decide (V.int (mdOf c : Nat) = V.int 0) = (mdOf c == 0) := by
    rw [Bool.eq_iff_iff]
    simp
  rw [e0]
  refine iteB (fun h1 => ?_) (fun h1 => ?_)
  · unfold mdB at q
    rw [h1] at q
    exact q
  · unfold mdB at q
    rw [h1, Bool.false_or] at q
    have h2 : mdOf c ≠ 0 := fun z => by
      rw [z] at h1
      cases h1
    obtain ⟨z, zs, rfl⟩ : ∃ z zs', zs = z :: zs' := by
      cases zs with
      | nil => exact absurd (hz h2) (Nat.lt_irrefl _)
      | cons a b => exact ⟨a, b, rfl⟩
    refine ⟨_, rfl, _, _, _, _, rfl, rfl, SqL.of hl, atI_nat (j := 0) rfl, _, _, rfl, rfl, _, rfl, iteB (fun h3 => ?_) (fun h3 => ?_)⟩
    · refine ⟨_, rfl, _, _, _, _, rfl, rfl, md_tup T _, atI_nat (md_at hc), _, _, rfl, rfl, ?_⟩
      have q2 : Q (.bl (decide (0 ≤ z) && decide (z < (mdOf c : Int)))) H := q
      rw [h3, Bool.true_and] at q2
      exact q2
    · have q2 : Q (.bl (decide (0 ≤ z) && decide (z < (mdOf c : Int)))) H := q
      rw [h3, Bool.false_and] at q2
      exact q2
abbrev N_has_parts : List Str := ["call", "values", "program", "numbers", "number"]
abbrev P_has_parts : List Str := ["call", "values", "program"]
theorem sc_has_parts : FnScope N_has_parts P_has_parts (defScope s_has_parts) := ⟨rfl, rfl, rfl, by decide +kernel, rfl, by decide +kernel, by decide +kernel⟩
def ptB (c : Nat) (zs : List Int) (p : Prog) : Bool := (zs.drop (zs.length - ptOf c)).all fun z => decide (0 ≤ z) && decide (z < (p.parts.length : Int))
def sp_has_parts (K : PySem.W.Frag) : Sp := fun vs H Q _ => ∃ (c : Nat) (l pa : Addr) (zs : List Int) (p : Prog), vs = [.int c, .ref l, .ref pa] ∧ c < 9 ∧ H l = some (.lst (zv zs)) ∧ ptOf c ≤ zs.length ∧ zs.length ≤ 10 ∧ ProgAt K H pa p ∧
  ∀ H', Same H H' → Q (.bl (ptB c zs p)) H'
theorem ok_has_parts (T : Tx K mg) : Df P w K mg base CX0 (1) (He.ga K "has_parts") P_has_parts (sp_has_parts K) := by
  refine df_mk (F_has_parts T) sc_has_parts (fun _ _ _ _ _ _ us hl => match us, hl with | [_, _, _], _ => rfl) (fun vs H Q E h => by obtain ⟨_, _, _, _, _, rfl, _⟩ := h; rfl) (fun cdv A outer s H vs Q E hr h => ⟨_, (pss_cons (ps_set (i := 3) sc_has_parts.nd rfl (Or.inl rfl) (pe_slice sl_list (pv 1) (po_some (pe_op op_sub (pe_callB call_len_seq (by rfl) (b_len T) PySem.boot_len (pa_cons (pv 1) pa_nil)) (pe_ix ix_tup (pgo (g_PARTS T)) (pv 0) (fun _ _ => rfl)))) po_none)) (pss_one (ps_ret (pe_callB (cr_all rfl) (by rfl) (b_all T) (by decide +kernel) (pa_cons (pe_lc rfl sc_has_parts.nd (own := [("number", 4)]) (pi_list (pv 3)) (blkOk_by (own := [("number", 4)]) (N := N_has_parts) (sc := defScope s_has_parts) (by decide +kernel)) (fun _ _ _ _ _ => pg_name (i := 4) sc_has_parts.nd rfl (Or.inl rfl)) (fun _ _ _ _ _ => pts_nil) (fun _ _ _ _ _ => (pe_chain op_le op_lt pe_int (pv 4) (pe_callB (len_seqK (K := K) rfl) (by rfl) (b_len T) PySem.boot_len (pa_cons (pe_fldK (K := K) rfl (pv 2) rfl) pa_nil))))) pa_nil))))), ?_⟩)
  obtain ⟨c, l, pa, zs, p, rfl, hc, hl, hz, h10, hp, q⟩ := h
  have hzl : (zv zs).length = zs.length := List.length_map _
  refine ⟨_, rfl, _, rfl, l, zv zs, rfl, .inl (SqL.of hl), _, rfl, _, _, _, _, rfl, rfl, pt_tup T _, atI_nat (pt_at hc), _, _, rfl, rfl, _, rfl, l, zv zs, rfl, SqL.of hl, fun ln hln => ?_⟩
  rw [show ((zv zs).length : Int) - (ptOf c : Nat) = ((zs.length - ptOf c : Nat) : Int) from by rw [hzl]; omega, cut_tail (by rw [hzl]; omega)]
  obtain ⟨dxP, lS, lP, lE, dN, sa, pl, p1, p2, p3, p4, p5, p6, p7⟩ := id hp
  have hpl : (pl.map V.ref).length = p.parts.length := by rw [List.length_map, p5.len]
  have s1 := same_new (o := .lst ((zv zs).drop (zs.length - ptOf c))) hln
  have d1 : upd H ln (.lst ((zv zs).drop (zs.length - ptOf c))) ln = some (.lst (zv (zs.drop (zs.length - ptOf c)))) := by
    rw [upd_same]
    unfold zv
    rw [List.map_drop]
  unfold ptB at q
  have hys : (zs.drop (zs.length - ptOf c)).length ≤ 10 := by
    rw [List.length_drop]
    omega
  generalize zs.drop (zs.length - ptOf c) = ys at d1 q hys
  generalize upd H ln (.lst ((zv zs).drop (zs.length - ptOf c))) = H1 at s1 d1 ⊢
  have hyl : (zv ys).length = ys.length := List.length_map _
  refine ⟨_, rfl, ln, rfl, ⟨_, SqL.of d1⟩, fun D hD => ?_⟩
  refine lc_it walk_list (fun j H' => Same H1 H' ∧ H' D = some (.lst (((ys.take j).map fun z => decide (0 ≤ z) && decide (z < (p.parts.length : Int))).map V.bl))) ⟨same_new hD, upd_same⟩ (fun j H' _ h => SqL.of (h.1 _ _ d1)) ?_ ?_
  · rintro j x H3 H4 hj ⟨k1, k2⟩ ⟨rfl, hx⟩
    unfold zv at hx
    rw [List.getElem?_map] at hx
    obtain ⟨z, hz2, rfl⟩ := Option.map_eq_some_iff.mp hx
    have fin : ∀ b : Bool, b = (decide (0 ≤ z) && decide (z < (p.parts.length : Int))) → ∃ acc, H4 D = some (.lst acc) ∧ acc.length < sizeLine ∧ (Same H1 (upd H4 D (.lst (acc ++ [V.bl b]))) ∧ upd H4 D (.lst (acc ++ [V.bl b])) D = some (.lst (((ys.take (j + 1)).map fun z => decide (0 ≤ z) && decide (z < (p.parts.length : Int))).map V.bl))) := fun b hb => by
      refine ⟨_, k2, ?_, same_upd k1 hD, ?_⟩
      · rw [List.length_map, List.length_map, List.length_take]
        exact Nat.lt_of_le_of_lt (by omega : _ ≤ 10) (by decide)
      · rw [upd_same, List.take_add_one, hz2, List.map_append, List.map_append, hb]
        rfl
    refine ⟨rfl, _, rfl, _, _, rfl, rfl, _, rfl, iteB (fun h3 => ?_) (fun h3 => ?_)⟩
    · refine ⟨_, rfl, pa, _, dxP, _, _, rfl, (s1.trans k1) _ _ p1, c_Program T, n_Program_parts T, rfl, lP, _, rfl, .inl (SqL.of ((s1.trans k1) _ _ p4)), _, _, rfl, rfl, ?_⟩
      exact fin _ (by rw [h3, Bool.true_and, hpl])
    · exact fin _ (by rw [h3, Bool.false_and])
  · rintro H3 ⟨k1, k2⟩
    rw [hyl, List.take_length] at k2
    refine ⟨D, _, rfl, SqL.of k2, ?_⟩
    have e : ((ys.map fun z => decide (0 ≤ z) && decide (z < (p.parts.length : Int))).all id) = ys.all fun z => decide (0 ≤ z) && decide (z < (p.parts.length : Int)) := by
      rw [List.all_map] <;> rfl
    rw [e]
    exact q H3 (s1.trans k1)
end
end Vf

set_option Elab.async false
set_option linter.all false
set_option maxRecDepth 100000
set_option maxHeartbeats 4000000
/-! An expression evaluated as if a list of ours were not known: nothing of what it gives lies there. -/
namespace Vf
open PySem PySem.Spec PyProof.Rows L2
section
variable {X : Cx} {pins : List (Addr × Obj)} {σ : L2.St} {H : Hp} {s : Shared} {a : Addr} {xs : List V}
theorem hide_del {P : Program} {w : World} {h : Heap} (ok : HOk P w H h) (ha : H a = some (.lst xs)) : HOk P w (delH H a) h := fun b o e => by
  have hb : b ≠ a := fun z => by
    rw [z, delH_same] at e
    cases e
  rw [delH_ne hb] at e
  refine (ok b o e).stay (fun _ _ _ q => q) (fun c q => ?_) fun c ys q => ?_
  · rw [delH_ne fun z => by rw [z, ha] at q; cases q]
    exact q
  · rw [delH_ne fun z => by rw [z, ha] at q; cases q]
    exact q
theorem hide_add {P : Program} {w : World} {h : Heap} {o : HO} (ok : HOk P w H h) (ha : H a = none) (new : ObjOk P w (upd H a o) h a o) : HOk P w (upd H a o) h := ok.laidN (fun _ _ e => e) ha new
/-- the list of ours is known no more, but stands where it stands -/
theorem inv_hide (I : Inv X pins σ H s) (ha : H a = some (.lst xs)) : ∃ o, s.heap.get? a = some o ∧ (∃ (its : List Value) (n : Nat), Vals xs its ∧ o = { cls := .type "list", data := .seq its.toArray n }) ∧ Inv X ((a, o) :: pins) σ (delH H a) s := by
  obtain ⟨hz, its, n, rv, ho⟩ := I.hok a _ ha
  have nL : a ≠ X.env.locals := fun z => by
    have e := I.free
    rw [← z, ha] at e
    cases e
  have nfs : a ∉ X.fs := fun z => by
    have y := I.stkFree a ?_
    · rw [ha] at y
      cases y
    · rcases I.ok.stk with e | ⟨e, hf⟩
      · rw [e]
        exact z
      · rw [e]
        exact List.mem_filterMap.mpr (by
          obtain ⟨v, h1, h2⟩ := List.mem_filterMap.mp z
          exact ⟨v, List.mem_cons_of_mem _ h1, h2⟩)
  have del : ∀ b, H b = none → delH H a b = none := fun b e => by
    by_cases hb : b = a
    · rw [hb, delH_same]
    · rw [delH_ne hb]
      exact e
  refine ⟨_, ho, ⟨its, n, rv, rfl⟩, ⟨I.ok, I.os, I.bare, ⟨I.base.keep, I.base.slot, fun b o e n hx => del b (I.base.free b o e n hx), I.base.there, fun b ys e => ?_, fun b o u e => ?_, fun b ps e => ?_⟩, I.loc, I.cell, del _ I.free, fun x c e => del _ (I.freeC x c e), fun p hp => ?_, hide_del I.hok ha, I.len⟩⟩
  · have z := I.base.tups b ys e
    rw [delH_ne fun y => by rw [y, ha] at z; cases z]
    exact z
  · have z := I.base.frzs b o u e
    rw [delH_ne fun y => by rw [y, ha] at z; cases z]
    exact z
  · obtain ⟨more, z⟩ := I.base.tbls b ps e
    exact ⟨more, by rw [delH_ne fun y => by rw [y, ha] at z; cases z]; exact z⟩
  · rcases List.mem_append.mp hp with z | z
    · obtain ⟨z1, z2, z3⟩ := I.pin p (List.mem_append_left _ z)
      exact ⟨z1, del _ z2, z3⟩
    · rcases List.mem_cons.mp z with z | z
      · rw [z]
        exact ⟨ho, delH_same, nL, nfs, fun v y => by cases y⟩
      · obtain ⟨z1, z2, z3⟩ := I.pin p (List.mem_append_right _ z)
        exact ⟨z1, del _ z2, z3⟩
/-- it is known again -/
theorem inv_unhide {its : List Value} {n : Nat} {H0 : Hp} {s0 : Shared} (I0 : Inv X pins σ H0 s0) (ha : H0 a = some (.lst xs)) (I : Inv X ((a, { cls := .type "list", data := .seq its.toArray n }) :: pins) σ H s) (rv : Vals xs its) (hz : xs.length ≤ sizeLine) : H a = none ∧ Inv X pins σ (upd H a (.lst xs)) s := by
  obtain ⟨ho, hn, nL, nfs, hd⟩ := I.pin (a, { cls := .type "list", data := .seq its.toArray n }) (List.mem_append_right _ (List.mem_cons_self ..))
  dsimp only at ho hn nL nfs
  have put : ∀ b, b ≠ a → H b = none → upd H a (.lst xs) b = none := fun b hb e => by
    rw [upd_ne hb]
    exact e
  have old : ∀ {b : Addr} {o : HO}, H b = some o → upd H a (.lst xs) b = some o := fun {b o} e => by
    rw [upd_ne (ne_of_none e hn)]
    exact e
  refine ⟨hn, I.ok, I.os, I.bare, ⟨I.base.keep, I.base.slot, fun b o e z hx => put b (fun y => ?_) (I.base.free b o e z hx), I.base.there, fun b ys e => old (I.base.tups b ys e), fun b o u e => old (I.base.frzs b o u e), fun b ps e => ?_⟩, I.loc, I.cell, put _ (Ne.symm nL) I.free, fun x c e => put _ (fun y => ?_) (I.freeC x c e), fun p hp => ?_, hide_add I.hok hn ⟨hz, its, n, rv, ho⟩, I.len⟩
  · have y2 := I0.base.free b o e z hx
    rw [y, ha] at y2
    cases y2
  · obtain ⟨more, z⟩ := I.base.tbls b ps e
    exact ⟨more, old z⟩
  · obtain ⟨v, o, e1, e2⟩ := I.cell x c e
    rw [y, ho] at e1
    cases e1
    cases e2
  · have hp2 : p ∈ X.pn ++ ((a, ({ cls := .type "list", data := .seq its.toArray n } : Obj)) :: pins) := (List.mem_append.mp hp).elim (fun z => List.mem_append_left _ z) fun z => List.mem_append_right _ (List.mem_cons_of_mem _ z)
    obtain ⟨z1, z2, z3⟩ := I.pin p hp2
    refine ⟨z1, put _ (fun y => ?_) z2, z3⟩
    have y2 := (I0.pin p hp).2.1
    rw [y, ha] at y2
    cases y2
/-- .. an expression -/
theorem pe_hide {e : Expr} {te : TE} (h : PE X e te) : PE X e (fun σ H Q => ∃ a xs, H a = some (.lst xs) ∧ te σ (delH H a) fun v H' => H' a = none → Q v (upd H' a (.lst xs))) := by
  refine ⟨fun pins s σ H Q I hq => ?_⟩
  obtain ⟨a, xs, ha, ht⟩ := hq
  obtain ⟨o, ho, ⟨its, n, rv, rfl⟩, J⟩ := inv_hide I ha
  refine wpAny_mono (h.run _ s σ _ _ J ht) (fun v s' z => ?_) fun _ _ x => x
  obtain ⟨y, H', J', r, q⟩ := z
  obtain ⟨hn, I'⟩ := inv_unhide I ha J' rv (by
    obtain ⟨hz, _⟩ := I.hok a _ ha
    exact hz)
  exact ⟨y, _, I', r, q hn⟩
end
end Vf

set_option Elab.async false
set_option linter.all false
set_option maxRecDepth 100000
set_option maxHeartbeats 4000000
/-! The object of the calls: what it holds. -/
namespace Vf
open PySem PySem.Spec PyProof.Rows L2
open VakepBase (Bytes)
open Vakepa (Prog total)
open Vakepb (reachedBy lost tables)
section
variable {P : Program} {w : World} {K : PySem.W.Frag} {mg : Str → Option Value} {base : Heap}
structure Hld where
  a : Addr
  dx : Addr
  rd : Addr
  pv : Option (Addr × Prog)
  rs : List Rch
def Hld.M (t : Addr) (o : Hld) : List Addr := t :: o.a :: o.rd :: o.rs.map (·.dk)
def Hld.but (t : Addr) (o : Hld) (r : Rch) : List Addr := (o.M t).filter fun b => decide (b ≠ r.dk)
def pvV : Option (Addr × Prog) → V
  | none => .non
  | some x => .ref x.1
def rsKv (rs : List Rch) : List (Key × V) := rs.map fun r => ((Sum.inl (r.m : Int) : Key), V.ref r.a)
/-- what stands of it; t: the table of heavy's code objects -/
structure HoldS (K : PySem.W.Frag) (t : Addr) (H : Hp) (o : Hld) : Prop where
  obj : H o.a = some (.ins (He.ga K "Holder") o.dx [("program", pvV o.pv), ("reaches", .ref o.rd)])
  dic : H o.rd = some (.dK (rsKv o.rs))
  tab : LamX.TabS H t hvQ
  nd : (o.rs.map (·.dk)).Nodup
  nm : (o.rs.map (·.m)).Nodup
  prog : ∀ x, o.pv = some x → Wfp x.2 ∧ ProgAt K (Off (o.M t) H) x.1 x.2
  rch : ∀ r ∈ o.rs, (∃ x, o.pv = some x ∧ r.p = x.2) ∧ ReachS K (o.but t r) H r
abbrev FrH (t : Addr) (o o' : Hld) (H H' : Hp) : Prop := Same (Off (o.M t) H) (Off (o'.M t) H')
theorem but_in {t : Addr} {o : Hld} {r : Rch} {b : Addr} : b ∈ o.but t r ↔ b ∈ o.M t ∧ b ≠ r.dk := by
  unfold Hld.but
  rw [List.mem_filter, decide_eq_true_eq]
theorem dk_in {t : Addr} {o : Hld} {r : Rch} (h : r ∈ o.rs) : r.dk ∈ o.M t := by
  unfold Hld.M
  exact List.mem_cons_of_mem _ (List.mem_cons_of_mem _ (List.mem_cons_of_mem _ (List.mem_map.mpr ⟨r, h, rfl⟩)))
theorem M_in {t : Addr} {o : Hld} {b : Addr} : b ∈ o.M t ↔ b = t ∨ b = o.a ∨ b = o.rd ∨ ∃ r ∈ o.rs, r.dk = b := by
  unfold Hld.M
  rw [List.mem_cons, List.mem_cons, List.mem_cons, List.mem_map]
theorem off_mono {M M' N : List Addr} {H H' : Hp} (f : Same (Off M H) (Off M' H')) (h : ∀ b ∈ M, b ∈ N) : Same (Off N H) (Off N H') := fun b u e => by
  obtain ⟨z1, z2⟩ := off_some.mp e
  exact off_some.mpr ⟨z1, off_le _ _ (f b u (off_some.mpr ⟨fun y => z1 (h b y), z2⟩))⟩
theorem but_all {t : Addr} {o : Hld} {r : Rch} {b : Addr} (h : b ∈ o.M t) : b ∈ o.but t r ++ r.M := by
  by_cases e : b = r.dk
  · exact List.mem_append_right _ (List.mem_singleton.mpr e)
  · exact List.mem_append_left _ (but_in.mpr ⟨h, e⟩)
theorem HoldS.same {t : Addr} {H H' : Hp} {o : Hld} (h : HoldS K t H o) (f : Same H H') : HoldS K t H' o :=
  ⟨f _ _ h.obj, f _ _ h.dic, h.tab.ext f, h.nd, h.nm, fun x e => ⟨(h.prog x e).1, (h.prog x e).2.same (off_same f)⟩, fun r hr => ⟨(h.rch r hr).1, (h.rch r hr).2.same f⟩⟩
theorem nodup_inj {α β : Type} {f : α → β} : ∀ {l : List α} {x y : α}, (l.map f).Nodup → x ∈ l → y ∈ l → f x = f y → x = y
  | z :: l, x, y, h, hx, hy, e => by
    rw [List.map_cons, List.nodup_cons] at h
    rcases List.mem_cons.mp hx with a | a <;> rcases List.mem_cons.mp hy with b | b
    · rw [a, b]
    · exact absurd (List.mem_map.mpr ⟨y, b, by rw [← e, a]⟩) h.1
    · exact absurd (List.mem_map.mpr ⟨x, a, by rw [e, b]⟩) h.1
    · exact nodup_inj h.2 a b e
/-- a call that finds more of one Reach, and may make code objects -/
theorem HoldS.call {t : Addr} {H H' : Hp} {o : Hld} {r : Rch} (h : HoldS K t H o) (hr : r ∈ o.rs) (f : FrP t r H H') (k : ReachS K (o.but t r) H' r) (tb : LamX.TabS H' t hvQ) : HoldS K t H' o ∧ FrH t o o H H' := by
  obtain ⟨ps, ht, _⟩ := h.tab
  obtain ⟨kvs, hd⟩ := (h.rch r hr).2.dk_some
  have keep : ∀ b u, b ≠ t → b ≠ r.dk → H b = some u → H' b = some u := fun b u h1 h2 e => off_le _ _ (f b u (off_some.mpr ⟨fun z => (List.mem_cons.mp z).elim h1 fun z => h2 (List.mem_singleton.mp z), e⟩))
  have sub : ∀ b ∈ t :: r.M, b ∈ o.M t := fun b hb => (List.mem_cons.mp hb).elim (fun z => M_in.mpr (.inl z)) fun z => by
    rw [List.mem_singleton.mp z]
    exact dk_in hr
  refine ⟨⟨keep _ _ (ne_kind h.obj ht (by intro z; cases z)) (ne_kind h.obj hd (by intro z; cases z)) h.obj, keep _ _ (ne_kind h.dic ht (by intro z; cases z)) (ne_kind h.dic hd (by intro z; cases z)) h.dic, tb, h.nd, h.nm, fun x e => ⟨(h.prog x e).1, (h.prog x e).2.same (off_mono f sub)⟩, fun r2 hr2 => ⟨(h.rch r2 hr2).1, ?_⟩⟩, off_mono f sub⟩
  by_cases e : r2.dk = r.dk
  · rw [nodup_inj h.nd hr2 hr e]
    exact k
  · have h2 := (h.rch r2 hr2).2
    obtain ⟨kv2, hd2⟩ := h2.dk_some
    have tin : t ∈ o.but t r2 := but_in.mpr ⟨M_in.mpr (.inl rfl), ne_kind ht hd2 (by intro z; cases z)⟩
    have din : r.dk ∈ o.but t r2 := but_in.mpr ⟨dk_in hr, Ne.symm e⟩
    refine h2.via (off_mono f fun b hb => but_all (sub b hb)) ((keep _ _ (fun z => h2.na (by rw [z]; exact tin)) (fun z => h2.na (by rw [z]; exact din)) h2.obj).trans h2.obj.symm) ((keep _ _ (fun z => h2.nk (by rw [z]; exact tin)) e hd2).trans hd2.symm) h2.na h2.nk fun x hx => ?_
    by_cases hxt : x = t
    · obtain ⟨ps2, z, _⟩ := tb
      exact ⟨_, by rw [hxt]; exact z⟩
    · by_cases hxd : x = r.dk
      · obtain ⟨kv3, z⟩ := k.dk_some
        exact ⟨_, by rw [hxd]; exact z⟩
      · obtain ⟨u, z⟩ := h2.live x hx
        exact ⟨u, keep _ _ hxt hxd z⟩
/-- .. where no table grows -/
theorem HoldS.callR {t : Addr} {H H' : Hp} {o : Hld} {r : Rch} (h : HoldS K t H o) (hr : r ∈ o.rs) (f : FrR r H H') (k : ReachS K (o.but t r) H' r) : HoldS K t H' o ∧ FrH t o o H H' := by
  obtain ⟨ps, ht, _⟩ := h.tab
  obtain ⟨kvs, hd⟩ := (h.rch r hr).2.dk_some
  exact h.call hr (off_cons f) k (tab_fr h.tab (fun z => ne_kind ht hd (by intro z; cases z) (List.mem_singleton.mp z)) (dk_code (h.rch r hr).2 hvQ) f)
/-! ### kinds -/
/-- an object that a program may be made of -/
def good : HO → Prop
  | .lst _ => True
  | .ins _ _ fs => fs.lookup ("reaches" : Str) = none
  | _ => False
abbrev SameG (H H' : Hp) : Prop := ∀ b u, good u → H b = some u → H' b = some u
theorem SetAt.goes {H H' : Hp} (s : SameG H H') {a : Addr} {x : BSet} (h : SetAt K H a x) : SetAt K H' a x := by
  obtain ⟨dx, lw, e1, e2⟩ := h
  exact ⟨dx, lw, s _ _ rfl e1, s _ _ True.intro e2⟩
theorem SBodyAt.goes {p : Prog} {H H' : Hp} (s : SameG H H') : ∀ {x : BStmt} {vs : List V}, SBodyAt K p H x vs → SBodyAt K p H' x vs
  | .done, _, h => h
  | .say k r, _, ⟨a, dx, ws, e, h, t⟩ => ⟨a, dx, ws, e, s _ _ rfl h, SBodyAt.goes s t⟩
  | .call k r, _, ⟨a, dx, ws, e, h, t⟩ => ⟨a, dx, ws, e, s _ _ rfl h, SBodyAt.goes s t⟩
  | .make ps r, _, ⟨a, dx, l, ws, e, h, h2, t⟩ => ⟨a, dx, l, ws, e, s _ _ rfl h, s _ _ True.intro h2, SBodyAt.goes s t⟩
  | .when_ x v b r, _, ⟨a, dx, l, us, ws, e, h, h2, t1, t⟩ => ⟨a, dx, l, us, ws, e, s _ _ rfl h, s _ _ True.intro h2, SBodyAt.goes s t1, SBodyAt.goes s t⟩
theorem PAt.goes {p : Prog} {H H' : Hp} (s : SameG H H') {a : Addr} {x : BPart} (h : PAt K p H a x) : PAt K p H' a x := by
  obtain ⟨dx, l, us, e1, e2, e3⟩ := h
  exact ⟨dx, l, us, s _ _ rfl e1, s _ _ True.intro e2, e3.goes s⟩
/-- a program lies where nothing of these kinds is -/
theorem ProgAt.off {H : Hp} {M : List Addr} {a : Addr} {p : Prog} (h : ProgAt K H a p) (g : ∀ b ∈ M, ∀ u, H b = some u → ¬ good u ∧ ∀ kvs, u ≠ .dK kvs) : ProgAt K (Off M H) a p := by
  have s : SameG H (Off M H) := fun b u hg e => off_some.mpr ⟨fun z => (g b z u e).1 hg, e⟩
  obtain ⟨dx, lS, lP, lE, dN, sa, pa, e1, e2, e3, e4, e5, e6, e7⟩ := h
  exact ⟨dx, lS, lP, lE, dN, sa, pa, s _ _ rfl e1, s _ _ True.intro e2, e3.mono fun _ _ => SetAt.goes s, s _ _ True.intro e4, e5.mono fun _ _ => PAt.goes s, s _ _ True.intro e6, off_some.mpr ⟨fun z => (g dN z _ e7).2 _ rfl, e7⟩⟩
/-- a Reach beside what else is held -/
theorem ReachS.wide {L : List Addr} {H : Hp} {r : Rch} (h : ReachS K [] H r) (hp : ProgAt K (Off (L ++ r.M) H) r.pa r.p) (live : ∀ x ∈ L, ∃ u, H x = some u ∧ ∀ xs, u ≠ .lst xs) (na : r.a ∉ L) (nk : r.dk ∉ L) : ReachS K L H r := by
  have off : ∀ {b : Addr} {l : List V}, Off ([] ++ r.M) H b = some (.lst l) → Off (L ++ r.M) H b = some (.lst l) := fun {b l} e => by
    obtain ⟨z1, z2⟩ := off_some.mp e
    refine off_some.mpr ⟨fun z => ?_, z2⟩
    rcases List.mem_append.mp z with y | y
    · obtain ⟨u, e2, n⟩ := live b y
      rw [z2] at e2
      exact n l (Option.some.inj e2).symm
    · exact z1 y
  obtain ⟨e, wf, m3, _, _, _, pr, ta, kn, k1, k2, k3, k4⟩ := h
  refine ⟨e, wf, m3, fun x hx => (live x hx).imp fun u z => z.1, na, nk, hp, ta.imp id fun ⟨z, T, e, as, t1, t2⟩ => ⟨z, T, e, as, off t1, t2.mono fun T t ⟨rs, z1, z2⟩ => ⟨rs, off z1, z2.mono fun _ _ y => off y⟩⟩, kn, k1, k2, k3, fun e he => off (k4 e he)⟩
end
end Vf

set_option Elab.async false
set_option linter.all false
set_option maxRecDepth 100000
set_option maxHeartbeats 4000000
/-! The object of the calls: made, and its Reach by a mode. -/
namespace Vf
open PySem PySem.Spec PyProof.Rows L2
open VakepBase (Bytes)
open Vakepa (Prog total)
open Vakepb (reachedBy lost tables)
section
variable {P : Program} {w : World} {K : PySem.W.Frag} {mg : Str → Option Value} {base : Heap}
theorem HoldS.has_ {t : Addr} {H : Hp} {o : Hld} (h : HoldS K t H o) {b : Addr} (hb : b ∈ o.M t) : ∃ u, H b = some u ∧ (∀ xs, u ≠ .lst xs) := by
  rcases M_in.mp hb with z | z | z | ⟨r, hr, z⟩
  · obtain ⟨ps, e, _⟩ := h.tab
    exact ⟨_, by rw [z]; exact e, fun xs y => by cases y⟩
  · exact ⟨_, by rw [z]; exact h.obj, fun xs y => by cases y⟩
  · exact ⟨_, by rw [z]; exact h.dic, fun xs y => by cases y⟩
  · obtain ⟨kvs, e⟩ := (h.rch r hr).2.dk_some
    exact ⟨_, by rw [← z]; exact e, fun xs y => by cases y⟩
theorem rs_val (m : Nat) : ∀ rs : List Rch, (valV (rsKv rs) (Sum.inl (m : Int)) = none ∧ ∀ r ∈ rs, r.m ≠ m) ∨ ∃ r ∈ rs, r.m = m ∧ valV (rsKv rs) (Sum.inl (m : Int)) = some (.ref r.a)
  | [] => .inl ⟨rfl, fun r hr => nomatch hr⟩
  | r :: rs => by
    show (valV ((Sum.inl (r.m : Int), V.ref r.a) :: rsKv rs) _ = none ∧ _) ∨ ∃ r2 ∈ _, _ ∧ valV ((Sum.inl (r.m : Int), V.ref r.a) :: rsKv rs) _ = _
    by_cases e : r.m = m
    · exact .inr ⟨r, List.mem_cons_self .., e, by rw [e]; exact valV_pos rfl⟩
    · have ne : ¬ ((Sum.inl (r.m : Int) : Key) = Sum.inl (m : Int)) := fun z => e (by
        have := Sum.inl.inj z
        omega)
      rw [valV_neg ne]
      rcases rs_val m rs with ⟨h1, h2⟩ | ⟨r2, h1, h2, h3⟩
      · refine .inl ⟨h1, fun r2 hr2 => ?_⟩
        rcases List.mem_cons.mp hr2 with z | z
        · rw [z]
          exact e
        · exact h2 r2 z
      · exact .inr ⟨r2, List.mem_cons_of_mem _ h1, h2, h3⟩
theorem rs_put {m : Nat} {rs : List Rch} {r : Rch} (h : ∀ r2 ∈ rs, r2.m ≠ m) (e : r.m = m) : putK (rsKv rs) (Sum.inl (m : Int)) (.ref r.a) = rsKv (rs ++ [r]) := by
  have ha : ((rsKv rs).any fun kv => decide (kv.1 = (Sum.inl (m : Int) : Key))) = false := by
    rw [List.any_eq_false]
    intro kv hkv
    obtain ⟨r2, hr2, z⟩ := List.mem_map.mp hkv
    rw [← z, decide_eq_true_eq]
    intro y
    have := Sum.inl.inj y
    exact h r2 hr2 (by omega)
  unfold putK
  rw [ha]
  unfold rsKv
  rw [List.map_append, ← e] <;> rfl
/-- one more Reach is held -/
theorem HoldS.add {t : Addr} {H H' : Hp} {o : Hld} {r : Rch} {x : Addr × Prog} (h : HoldS K t H o) (hx : o.pv = some x) (f : Same H H') (k : ReachS K [] H' r) (hn : ∀ r2 ∈ o.rs, r2.m ≠ r.m) (hdk : H r.dk = none) (hra : H r.a = none) (epa : r.pa = x.1) (ep : r.p = x.2) :
    FrH t o { o with rs := o.rs ++ [r] } H (upd H' o.rd (.dK (rsKv (o.rs ++ [r])))) ∧ HoldS K t (upd H' o.rd (.dK (rsKv (o.rs ++ [r])))) { o with rs := o.rs ++ [r] } := by
  have hM : ∀ {b : Addr}, b ∈ Hld.M t { o with rs := o.rs ++ [r] } ↔ b ∈ o.M t ∨ b = r.dk := fun {b} => by
    rw [M_in, M_in]
    constructor
    · rintro (z | z | z | ⟨r2, hr2, z⟩)
      · exact .inl (.inl z)
      · exact .inl (.inr (.inl z))
      · exact .inl (.inr (.inr (.inl z)))
      · rcases List.mem_append.mp hr2 with y | y
        · exact .inl (.inr (.inr (.inr ⟨r2, y, z⟩)))
        · exact .inr (by rw [← z, List.mem_singleton.mp y])
    · rintro ((z | z | z | ⟨r2, hr2, z⟩) | z)
      · exact .inl z
      · exact .inr (.inl z)
      · exact .inr (.inr (.inl z))
      · exact .inr (.inr (.inr ⟨r2, List.mem_append_left _ hr2, z⟩))
      · exact .inr (.inr (.inr ⟨r, List.mem_append_right _ (List.mem_singleton.mpr rfl), z.symm⟩))
  have rdM : o.rd ∈ o.M t := M_in.mpr (.inr (.inr (.inl rfl)))
  have keep : ∀ {b : Addr} {u : HO}, b ≠ o.rd → H b = some u → upd H' o.rd (.dK (rsKv (o.rs ++ [r]))) b = some u := fun {b u} n e => by
    rw [upd_ne n]
    exact f _ _ e
  have g : FrH t o { o with rs := o.rs ++ [r] } H (upd H' o.rd (.dK (rsKv (o.rs ++ [r])))) := fun b u e => by
    obtain ⟨z1, z2⟩ := off_some.mp e
    have n : b ≠ o.rd := fun y => z1 (by rw [y]; exact rdM)
    refine off_some.mpr ⟨fun z => (hM.mp z).elim z1 fun y => ?_, keep n z2⟩
    rw [y, hdk] at z2
    cases z2
  have dk2 : ∀ r2 ∈ o.rs, r2.dk ≠ r.dk := fun r2 hr2 z => by
    obtain ⟨kvs, e⟩ := (h.rch r2 hr2).2.dk_some
    rw [z, hdk] at e
    cases e
  have rdk : o.rd ≠ r.dk := ne_of_none h.dic hdk
  obtain ⟨kvr, ekr⟩ := k.dk_some
  obtain ⟨ps, ht, _⟩ := id h.tab
  refine ⟨g, keep (ne_kind h.obj h.dic (by intro z; cases z)) h.obj, upd_same, ?_, ?_, ?_, fun y e => ⟨(h.prog y e).1, (h.prog y e).2.same g⟩, fun r2 hr2 => ?_⟩
  · refine tab_fr (M := [o.rd]) (M' := [o.rd]) h.tab (fun z => ne_kind ht h.dic (by intro z; cases z) (List.mem_singleton.mp z)) (fun m hm c z => ?_) ?_
    · rw [List.mem_singleton.mp hm, h.dic] at z
      have z2 := Option.some.inj z
      unfold LamX.CodeO at z2
      cases z2
    · rw [off_upd (List.mem_singleton.mpr rfl)]
      exact off_same f
  · rw [List.map_append, List.nodup_append]
    refine ⟨h.nd, by simp, fun b hb c hc => ?_⟩
    obtain ⟨r2, hr2, z⟩ := List.mem_map.mp hb
    have hc2 : c = r.dk := by simpa using hc
    rw [← z, hc2]
    exact dk2 r2 hr2
  · rw [List.map_append, List.nodup_append]
    refine ⟨h.nm, by simp, fun b hb c hc => ?_⟩
    obtain ⟨r2, hr2, z⟩ := List.mem_map.mp hb
    have hc2 : c = r.m := by simpa using hc
    rw [← z, hc2]
    exact hn r2 hr2
  · rcases List.mem_append.mp hr2 with hr2 | hr2
    · obtain ⟨y, h2⟩ := h.rch r2 hr2
      obtain ⟨kv2, e2⟩ := h2.dk_some
      have old : ∀ {b : Addr}, b ∈ Hld.but t { o with rs := o.rs ++ [r] } r2 → b ∈ o.but t r2 ∨ b = r.dk := fun {b} hb => by
        obtain ⟨z1, z2⟩ := but_in.mp hb
        exact (hM.mp z1).imp (fun z => but_in.mpr ⟨z, z2⟩) id
      refine ⟨y, h2.via (fun b u e => ?_) ((keep (ne_kind h2.obj h.dic (by intro z; cases z)) h2.obj).trans h2.obj.symm) ((keep (ne_kind e2 h.dic (by intro z; cases z)) e2).trans e2.symm) (fun z => (old z).elim h2.na fun z => ?_) (fun z => (but_in.mp z).2 rfl) fun b hb => ?_⟩
      · obtain ⟨z1, z2⟩ := off_some.mp e
        have n : b ≠ o.rd := fun y => z1 (by rw [y]; exact but_all rdM)
        refine off_some.mpr ⟨fun z => ?_, keep n z2⟩
        rcases List.mem_append.mp z with z | z
        · rcases old z with z | z
          · exact z1 (List.mem_append_left _ z)
          · rw [z, hdk] at z2
            cases z2
        · exact z1 (List.mem_append_right _ z)
      · have e := h2.obj
        rw [z, hdk] at e
        cases e
      · rcases old hb with z | z
        · by_cases hbr : b = o.rd
          · exact ⟨_, by rw [hbr, upd_same]⟩
          · obtain ⟨u, e⟩ := h2.live b z
            exact ⟨u, keep hbr e⟩
        · exact ⟨_, by rw [z, upd_ne (Ne.symm rdk)]; exact ekr⟩
    · rw [List.mem_singleton.mp hr2]
      have old : ∀ {b : Addr}, b ∈ Hld.but t { o with rs := o.rs ++ [r] } r → b ∈ o.M t := fun {b} hb => by
        obtain ⟨z1, z2⟩ := but_in.mp hb
        exact (hM.mp z1).resolve_right z2
      refine ⟨⟨x, hx, ep⟩, ReachS.put (ReachS.wide k ?_ (fun b hb => ?_) (fun z => ?_) fun z => (but_in.mp z).2 rfl) (but_in.mpr ⟨hM.mpr (.inl rdM), rdk⟩)⟩
      · rw [epa, ep]
        refine (h.prog x hx).2.same fun b u e => ?_
        obtain ⟨z1, z2⟩ := off_some.mp e
        refine off_some.mpr ⟨fun z => ?_, f _ _ z2⟩
        rcases List.mem_append.mp z with z | z
        · exact z1 (old z)
        · rw [List.mem_singleton.mp z, hdk] at z2
          cases z2
      · obtain ⟨u, e, n⟩ := h.has_ (old hb)
        exact ⟨u, f _ _ e, n⟩
      · obtain ⟨u, e, _⟩ := h.has_ (old z)
        rw [hra] at e
        cases e
abbrev N_Holder_init : List Str := ["self"]
abbrev P_Holder_init : List Str := ["self"]
theorem sc_Holder_init : FnScope N_Holder_init P_Holder_init (defScope s_Holder_init) := ⟨rfl, rfl, rfl, by decide +kernel, rfl, by decide +kernel, by decide +kernel⟩
def sp_Holder_init (K : PySem.W.Frag) : Sp := fun vs H Q _ => ∃ (a dx : Addr), vs = [.ref a] ∧ H a = some (.ins (He.ga K "Holder") dx []) ∧
  ∀ (H' : Hp) (rd : Addr), (∀ b u, b ≠ a → H b = some u → H' b = some u) → H' a = some (.ins (He.ga K "Holder") dx [("program", .non), ("reaches", .ref rd)]) → H' rd = some (.dK []) → Q .non H'
theorem ok_Holder_init (T : Tx K mg) : Df P w K mg base CX0 (1) (He.ma K (He.ga K "Holder") "__init__") P_Holder_init (sp_Holder_init K) := by
  refine df_mk (F_Holder_init T) sc_Holder_init (fun _ _ _ _ _ _ us hl => match us, hl with | [_], _ => rfl) (fun vs H Q E h => by obtain ⟨_, _, rfl, _⟩ := h; rfl) (fun cdv A outer s H vs Q E hr h => ⟨_, (pss_cons (ps_fld (pv 0) pe_non rfl) (pss_one (ps_fld (pv 0) pe_dnewK rfl))), ?_⟩)
  obtain ⟨a, dx, rfl, ha, q⟩ := h
  refine ⟨_, rfl, a, _, dx, _, rfl, ha, c_Holder T, n_Holder_program T, (by show 0 < 1000; decide), ?_⟩
  have h1 : upd H a (.ins (He.ga K "Holder") dx [("program", .non)]) a = some (.ins (He.ga K "Holder") dx [("program", .non)]) := upd_same
  have s1 : ∀ b u, b ≠ a → H b = some u → upd H a (.ins (He.ga K "Holder") dx [("program", .non)]) b = some u := fun b u n e => by
    rw [upd_ne n]
    exact e
  refine fun rd hrd => ?_
  have ne : rd ≠ a := fun z => by
    subst z
    have y := h1.symm.trans hrd
    cases y
  refine ⟨_, rfl, a, _, dx, _, rfl, (by rw [upd_ne (Ne.symm ne)]; exact h1), c_Holder T, n_Holder_reaches T, (by show 1 < 1000; decide), ?_⟩
  exact q _ rd (fun b u n e => by rw [upd_ne n, upd_ne (ne_of_none (s1 b u n e) hrd)]; exact s1 b u n e) upd_same (by rw [upd_ne ne, upd_same])
abbrev N_Holder_reach : List Str := ["self", "mode"]
abbrev P_Holder_reach : List Str := ["self", "mode"]
theorem sc_Holder_reach : FnScope N_Holder_reach P_Holder_reach (defScope s_Holder_reach) := ⟨rfl, rfl, rfl, by decide +kernel, rfl, by decide +kernel, by decide +kernel⟩
def sp_Holder_reach (K : PySem.W.Frag) : Sp := fun vs H Q _ => ∃ (t : Addr) (o : Hld) (m : Nat) (x : Addr × Prog), vs = [.ref o.a, .int m] ∧ HoldS K t H o ∧ o.pv = some x ∧ m < 3 ∧
  ∀ (H' : Hp) (o' : Hld) (r : Rch), FrH t o o' H H' → HoldS K t H' o' → o'.a = o.a → o'.pv = o.pv → r ∈ o'.rs → r.m = m → Q (.ref r.a) H'
theorem ok_Holder_reach (T : Tx K mg) (D_Reach_init : Df P w K mg base CX0 (8) (He.ma K (He.ga K "Reach") "__init__") P_Reach_init (sp_Reach_init K)) : Df P w K mg base CX0 (11) (He.ma K (He.ga K "Holder") "reach") P_Holder_reach (sp_Holder_reach K) := by
  refine df_mk (F_Holder_reach T) sc_Holder_reach (fun _ _ _ _ _ _ us hl => match us, hl with | [_, _], _ => rfl) (fun vs H Q E h => by obtain ⟨_, _, _, _, rfl, _⟩ := h; rfl) (fun cdv A outer s H vs Q E hr h => ⟨_, (pss_cons (ps_if (pt_cmp (pc_dnotin (hu_of hr) (pv 1) (pe_fld (pv 0) rfl))) (pss_one (ps_dput (hu_of hr) (pe_fld (pv 0) rfl) (pv 1) (pk D_Reach_init (k_Reach T) (g_Reach T) hr (pa_cons (pe_fld (pv 0) rfl) (pa_cons (pv 1) pa_nil))) rfl)) pss_nil) (pss_one (ps_ret (pe_dget (hu_of hr) (pe_fld (pv 0) rfl) (pv 1) (fun _ _ => rfl))))), ?_⟩)
  obtain ⟨t, o, m, x, rfl, h, hx, hm, q⟩ := h
  refine ⟨_, rfl, _, rfl, o.a, _, o.dx, _, _, rfl, h.obj, c_Holder T, n_Holder_reaches T, rfl, o.rd, _, rfl, DGet.k (k := Sum.inl (m : Int)) h.dic, _, rfl, ?_⟩
  rcases rs_val m o.rs with ⟨hv, hn⟩ | ⟨r, hr, hrm, hv⟩
  · rw [hv]
    refine iteT ?_
    refine ⟨_, rfl, o.a, _, o.dx, _, _, rfl, h.obj, c_Holder T, n_Holder_program T, rfl, _, rfl, fun ra rdx hra hrdx ne => ?_⟩
    have e0 : ∀ b u, H b = some u → b ≠ ra ∧ upd (upd H rdx (.own ra)) ra (.ins (He.ga K "Reach") rdx []) b = some u := fun b u e => by
      refine ⟨ne_of_none e hra, ?_⟩
      rw [upd_ne (ne_of_none e hra), upd_ne (ne_of_none e hrdx)]
      exact e
    refine ⟨ra, rdx, x.1, x.2, m, by rw [hx] <;> rfl, upd_same, (h.prog x hx).2.same fun b u e => off_some.mpr ⟨fun z => (e0 b u (off_le _ _ e)).1 (List.mem_singleton.mp z), (e0 b u (off_le _ _ e)).2⟩, (h.prog x hx).1, hm, fun H' r e1 e2 e3 e4 k kp hdk => ⟨rfl, ?_⟩⟩
    have f : Same H H' := fun b u e => kp b u (e0 b u e).1 (e0 b u e).2
    have hdk2 : H r.dk = none := by
      cases e : H r.dk with
      | none => rfl
      | some u =>
        have y := (e0 _ _ e).2.symm.trans hdk
        cases y
    have hl : (rsKv o.rs).length < sizeLine := by
      have z := le_of_lt (n := 3) h.nm fun k hk => by
        obtain ⟨r2, hr2, y⟩ := List.mem_map.mp hk
        rw [← y]
        exact (h.rch r2 hr2).2.m3
      unfold rsKv
      rw [List.length_map] at z ⊢
      exact Nat.lt_of_le_of_lt z (by decide)
    obtain ⟨g1, g2⟩ := h.add hx f k (fun r2 hr2 => by rw [e3]; exact hn r2 hr2) hdk2 (by rw [e1]; exact hra) e4 e2
    refine ⟨_, rfl, o.a, _, o.dx, _, _, rfl, f _ _ h.obj, c_Holder T, n_Holder_reaches T, rfl, _, rfl, o.rd, _, rfl, DPut.k (k := Sum.inl (m : Int)) (f _ _ h.dic) hl, ?_⟩
    rw [← e1, rs_put hn e3]
    have hv2 : DGet (upd H' o.rd (.dK (rsKv (o.rs ++ [r])))) o.rd (.int m) (some (.ref r.a)) := by
      have z := DGet.k (k := Sum.inl (m : Int)) g2.dic
      rcases rs_val m (o.rs ++ [r]) with ⟨y, n⟩ | ⟨r2, hr2, y1, y2⟩
      · exact absurd e3 (n r (List.mem_append_right _ (List.mem_singleton.mpr rfl)))
      · rcases List.mem_append.mp hr2 with w1 | w1
        · exact absurd y1 (hn r2 w1)
        · rw [List.mem_singleton.mp w1] at y2
          rw [y2] at z
          exact z
    refine ⟨_, rfl, o.a, _, o.dx, _, _, rfl, g2.obj, c_Holder T, n_Holder_reaches T, rfl, _, rfl, o.rd, _, rfl, hv2, ?_⟩
    exact q _ _ r g1 g2 rfl rfl (List.mem_append_right _ (List.mem_singleton.mpr rfl)) e3
  · rw [hv]
    refine iteF ?_
    have hv2 : DGet H o.rd (.int m) (some (.ref r.a)) := by
      rw [← hv]
      exact DGet.k (k := Sum.inl (m : Int)) h.dic
    refine ⟨_, rfl, o.a, _, o.dx, _, _, rfl, h.obj, c_Holder T, n_Holder_reaches T, rfl, _, rfl, o.rd, _, rfl, hv2, ?_⟩
    exact q H o r (Same.refl _) h rfl rfl hr hrm
end
end Vf

set_option Elab.async false
set_option linter.all false
set_option maxRecDepth 100000
set_option maxHeartbeats 4000000
/-! The object of the calls: what a call that is not refused tells. -/
namespace Vf
open PySem PySem.Spec PyProof.Rows L2
open VakepBase (Bytes)
open Vakepa (Prog total)
open Vakepb (reachedBy lost tables)
section
variable {P : Program} {w : World} {K : PySem.W.Frag} {mg : Str → Option Value} {base : Heap}
def Valid (p : Prog) : Nat → List Nat → Prop
  | 1, [] => True
  | 2, [m, k] => m < 2 ∧ k < p.parts.length
  | 3, [m, k] => m < 3 ∧ k < p.parts.length
  | 4, [] => True
  | 5, [m] => m < 3
  | 6, [k, g] => k < p.parts.length ∧ g < p.parts.length
  | 7, [m, k, g] => m < 3 ∧ k < p.parts.length ∧ g < p.parts.length
  | 8, [m] => m < 3
  | _, _ => False
def tellAns (p : Prog) : Nat → List Nat → List Int
  | 1, [] => ((Vakepa.shown p).length : Int) :: (Vakepa.shown p).map fun c => (c.toNat : Int)
  | 2, [m, k] => chainAns p m k
  | 3, [m, k] => lostAns p m k
  | 4, [] => treeAns p
  | 5, [m] => sharesAns p m
  | 6, [k, g] => aroundAns p k g
  | 7, [m, k, g] => bothAns p m k g
  | 8, [m] => heavyAns p m
  | _, _ => []
theorem no_ {i j : Int} {A B : Prop} (h : i ≠ j) (b : B) : if decide (V.int i = V.int j) = true then A else B := by
  rw [if_neg (by rw [decide_eq_true_eq]; exact fun z => h (V.int.inj z))]
  exact b
theorem yes_ {i j : Int} {A B : Prop} (h : i = j) (a : A) : if decide (V.int i = V.int j) = true then A else B := by
  rw [if_pos (by rw [decide_eq_true_eq, h])]
  exact a
theorem HoldS.lst {t : Addr} {H H' : Hp} {o o' : Hld} {l : Addr} {xs : List V} (h : HoldS K t H o) (f : FrH t o o' H H') (hl : H l = some (.lst xs)) : H' l = some (.lst xs) :=
  off_le _ _ (f _ _ (off_some.mpr ⟨fun z => by
    obtain ⟨u, e, n⟩ := h.has_ z
    rw [hl] at e
    exact n xs (Option.some.inj e).symm, hl⟩))
theorem HoldS.prg {t : Addr} {H : Hp} {o : Hld} {r : Rch} {x : Addr × Prog} (h : HoldS K t H o) (hr : r ∈ o.rs) (hx : o.pv = some x) : r.p = x.2 := by
  obtain ⟨⟨y, e, z⟩, _⟩ := h.rch r hr
  rw [hx] at e
  rw [z, Option.some.inj e]
abbrev N_Holder_tell : List Str := ["self", "call", "values", "reach"]
abbrev P_Holder_tell : List Str := ["self", "call", "values"]
theorem sc_Holder_tell : FnScope N_Holder_tell P_Holder_tell (defScope s_Holder_tell) := ⟨rfl, rfl, rfl, by decide +kernel, rfl, by decide +kernel, by decide +kernel⟩
def sp_Holder_tell (K : PySem.W.Frag) : Sp := fun vs H Q _ => ∃ (o : Hld) (c : Nat) (l : Addr) (x : Addr × Prog) (ns : List Nat), vs = [.ref o.a, .int c, .ref l] ∧ HoldS K (He.cT K hvD).2 H o ∧ o.pv = some x ∧ Valid x.2 c ns ∧ H l = some (.lst (iv ns)) ∧
  ∀ (H' : Hp) (o' : Hld) (a : Addr), FrH (He.cT K hvD).2 o o' H H' → HoldS K (He.cT K hvD).2 H' o' → o'.a = o.a → o'.pv = o.pv → H' a = some (.lst (zv (tellAns x.2 c ns))) → Q (.ref a) H'
theorem ok_Holder_tell (T : Tx K mg) (D_Holder_reach : Df P w K mg base CX0 (11) (He.ma K (He.ga K "Holder") "reach") P_Holder_reach (sp_Holder_reach K)) (D_shown : Df P w K mg base CX0 (12) (He.ga K "shown") P_shown (sp_shown K)) (D_chain : Df P w K mg base CX0 (3) (He.ga K "chain") P_chain (sp_chain K)) (D_lost : Df P w K mg base CX0 (100) (He.ga K "lost") P_lost (sp_lost K)) (D_tree : Df P w K mg base CX0 (100) (He.ga K "tree") P_tree (sp_tree K)) (D_shares : Df P w K mg base CX0 (101) (He.ga K "shares") P_shares (sp_shares K)) (D_around : Df P w K mg base CX0 (3) (He.ga K "around") P_around (sp_around K)) (D_both : Df P w K mg base CX0 (100) (He.ga K "both") P_both (sp_both K)) (D_heavy : Df P w K mg base CX0 103 (He.ga K "heavy") P_heavy (sp_heavy K)) : Df P w K mg base CX0 (106) (He.ma K (He.ga K "Holder") "tell") P_Holder_tell (sp_Holder_tell K) := by
  refine df_mk (F_Holder_tell T) sc_Holder_tell (fun _ _ _ _ _ _ us hl => match us, hl with | [_, _, _], _ => rfl) (fun vs H Q E h => by obtain ⟨_, _, _, _, _, rfl, _⟩ := h; rfl) (fun cdv A outer s H vs Q E hr h => ⟨_, (pss_cons (ps_if (pt_cmpR op_eq (pv 1) (pg (i_SHOWN T)) (nomark _)) (pss_one (ps_ret (pf D_shown (g_shown T) hr (pa_cons (pe_fld (pv 0) rfl) pa_nil)))) pss_nil) (pss_cons (ps_if (pt_cmpR op_eq (pv 1) (pg (i_TREE T)) (nomark _)) (pss_one (ps_ret (pf D_tree (g_tree T) hr (pa_cons (pm D_Holder_reach (c_Holder T) (m_Holder_reach T)  hr (pv 0) (pa_cons (pg (i_BY_BRANCHES T)) pa_nil)) pa_nil)))) pss_nil) (pss_cons (ps_if (pt_cmpR op_eq (pv 1) (pg (i_AROUND T)) (nomark _)) (pss_one (ps_ret (pf D_around (g_around T) hr (pa_cons (pm D_Holder_reach (c_Holder T) (m_Holder_reach T)  hr (pv 0) (pa_cons (pg (i_BY_BRANCHES T)) pa_nil)) (pa_cons (pe_ix ix_list (pv 2) pe_int (fun _ _ => rfl)) (pa_cons (pe_ix ix_list (pv 2) pe_int (fun _ _ => rfl)) pa_nil)))))) pss_nil) (pss_cons (ps_set (i := 3) sc_Holder_tell.nd rfl (Or.inl rfl) (pm D_Holder_reach (c_Holder T) (m_Holder_reach T)  hr (pv 0) (pa_cons (pe_ix ix_list (pv 2) pe_int (fun _ _ => rfl)) pa_nil))) (pss_cons (ps_if (pt_cmpR op_eq (pv 1) (pg (i_CHAIN T)) (nomark _)) (pss_one (ps_ret (pf D_chain (g_chain T) hr (pa_cons (pv 3) (pa_cons (pe_ix ix_list (pv 2) pe_int (fun _ _ => rfl)) pa_nil))))) pss_nil) (pss_cons (ps_if (pt_cmpR op_eq (pv 1) (pg (i_LOST T)) (nomark _)) (pss_one (ps_ret (pf D_lost (g_lost T) hr (pa_cons (pv 3) (pa_cons (pe_ix ix_list (pv 2) pe_int (fun _ _ => rfl)) pa_nil))))) pss_nil) (pss_cons (ps_if (pt_cmpR op_eq (pv 1) (pg (i_SHARES T)) (nomark _)) (pss_one (ps_ret (pf D_shares (g_shares T) hr (pa_cons (pv 3) pa_nil)))) pss_nil) (pss_cons (ps_if (pt_cmpR op_eq (pv 1) (pg (i_BOTH T)) (nomark _)) (pss_one (ps_ret (pf D_both (g_both T) hr (pa_cons (pv 3) (pa_cons (pe_ix ix_list (pv 2) pe_int (fun _ _ => rfl)) (pa_cons (pe_ix ix_list (pv 2) pe_int (fun _ _ => rfl)) pa_nil)))))) pss_nil) (pss_one (ps_ret (pf D_heavy (g_heavy T) hr (pa_cons (pv 3) pa_nil)))))))))))), ?_⟩)
  obtain ⟨o, c, l, x, ns, rfl, h, hx, hv, hl, q⟩ := h
  have fin : ∀ (H1 H2 : Hp) (o1 : Hld) (a : Addr), FrH (He.cT K hvD).2 o o1 H H1 → HoldS K (He.cT K hvD).2 H1 o1 → o1.a = o.a → o1.pv = o.pv → Same H1 H2 → H2 a = some (.lst (zv (tellAns x.2 c ns))) → Q (.ref a) H2 := fun H1 H2 o1 a f1 h1 ea ep s2 e2 => q H2 o1 a (f1.trans (off_same s2)) (h1.same s2) ea ep e2
  have finR : ∀ (H1 H2 : Hp) (o1 : Hld) (a : Addr) (r : Rch), FrH (He.cT K hvD).2 o o1 H H1 → HoldS K (He.cT K hvD).2 H1 o1 → o1.a = o.a → o1.pv = o.pv → r ∈ o1.rs → FrR r H1 H2 → ReachS K (o1.but (He.cT K hvD).2 r) H2 r → H2 a = some (.lst (zv (tellAns x.2 c ns))) → Q (.ref a) H2 := fun H1 H2 o1 a r f1 h1 ea ep hr f2 k2 e2 => by
    obtain ⟨h2, f3⟩ := h1.callR hr f2 k2
    exact q H2 o1 a (f1.trans f3) h2 ea ep e2
  match c, ns, hv, hl, q, fin, finR with
  | 1, [], _, hl, q, fin, finR =>
    refine ⟨_, rfl, rfl, _, rfl, yes_ rfl ?_⟩
    refine ⟨_, rfl, o.a, _, o.dx, _, _, rfl, h.obj, c_Holder T, n_Holder_program T, rfl, ?_⟩
    obtain ⟨hw, hp⟩ := h.prog x hx
    refine ⟨x.1, x.2, by rw [hx] <;> rfl, hp.same off_le, hw, fun H2 a s2 _ e2 => fin _ _ _ _ (Same.refl _) h rfl rfl s2 e2⟩
  | 4, [], _, hl, q, fin, finR =>
    refine ⟨_, rfl, rfl, _, rfl, no_ (by decide) ?_⟩
    refine ⟨_, rfl, rfl, _, rfl, yes_ rfl ?_⟩
    refine ⟨_, rfl, o.a, _, _, rfl, h.obj, rfl, _, o, 1, x, rfl, h, hx, by decide, fun H1 o1 r f1 h1 ea ep hr hrm => ?_⟩
    have hp := h1.prg hr (ep.trans hx)
    refine ⟨_, r, rfl, (h1.rch r hr).2, hrm, fun H2 a f2 k2 _ e2 => finR _ _ _ _ _ f1 h1 ea ep hr f2 k2 ?_⟩
    rw [hp] at e2
    exact e2
  | 6, [k, g], hv, hl, q, fin, finR =>
    refine ⟨_, rfl, rfl, _, rfl, no_ (by decide) ?_⟩
    refine ⟨_, rfl, rfl, _, rfl, no_ (by decide) ?_⟩
    refine ⟨_, rfl, rfl, _, rfl, yes_ rfl ?_⟩
    refine ⟨_, rfl, o.a, _, _, rfl, h.obj, rfl, _, o, 1, x, rfl, h, hx, by decide, fun H1 o1 r f1 h1 ea ep hr hrm => ?_⟩
    have hp := h1.prg hr (ep.trans hx)
    have hl1 := h.lst f1 hl
    refine ⟨_, rfl, l, _, _, _, rfl, rfl, SqL.of hl1, atI_nat (j := 0) rfl, _, rfl, l, _, _, _, rfl, rfl, SqL.of hl1, atI_nat (j := 1) rfl, _, r, k, g, rfl, (h1.rch r hr).2, hrm, fun H2 a s2 _ e2 => fin _ _ _ _ f1 h1 ea ep s2 ?_⟩
    rw [hp] at e2
    exact e2
  | 2, [m, k], hv, hl, q, fin, finR =>
    refine ⟨_, rfl, rfl, _, rfl, no_ (by decide) ?_⟩
    refine ⟨_, rfl, rfl, _, rfl, no_ (by decide) ?_⟩
    refine ⟨_, rfl, rfl, _, rfl, no_ (by decide) ?_⟩
    refine ⟨_, rfl, o.a, _, _, rfl, h.obj, rfl, _, rfl, l, _, _, _, rfl, rfl, SqL.of hl, atI_nat (j := 0) rfl, _, o, m, x, rfl, h, hx, Nat.lt_succ_of_lt hv.1, fun H1 o1 r f1 h1 ea ep hr hrm => ?_⟩
    have hp := h1.prg hr (ep.trans hx)
    have hl1 := h.lst f1 hl
    refine ⟨_, rfl, rfl, _, rfl, yes_ rfl ?_⟩
    refine ⟨_, rfl, _, rfl, l, _, _, _, rfl, rfl, SqL.of hl1, atI_nat (j := 1) rfl, _, r, k, rfl, (h1.rch r hr).2, by rw [hrm]; exact hv.1, fun H2 a s2 _ e2 => fin _ _ _ _ f1 h1 ea ep s2 ?_⟩
    rw [hp, hrm] at e2
    exact e2
  | 3, [m, k], hv, hl, q, fin, finR =>
    refine ⟨_, rfl, rfl, _, rfl, no_ (by decide) ?_⟩
    refine ⟨_, rfl, rfl, _, rfl, no_ (by decide) ?_⟩
    refine ⟨_, rfl, rfl, _, rfl, no_ (by decide) ?_⟩
    refine ⟨_, rfl, o.a, _, _, rfl, h.obj, rfl, _, rfl, l, _, _, _, rfl, rfl, SqL.of hl, atI_nat (j := 0) rfl, _, o, m, x, rfl, h, hx, hv.1, fun H1 o1 r f1 h1 ea ep hr hrm => ?_⟩
    have hp := h1.prg hr (ep.trans hx)
    have hl1 := h.lst f1 hl
    refine ⟨_, rfl, rfl, _, rfl, no_ (by decide) ?_⟩
    refine ⟨_, rfl, rfl, _, rfl, yes_ rfl ?_⟩
    refine ⟨_, rfl, _, rfl, l, _, _, _, rfl, rfl, SqL.of hl1, atI_nat (j := 1) rfl, _, r, k, rfl, (h1.rch r hr).2, by rw [hp]; exact hv.2, fun H2 a f2 k2 _ e2 => finR _ _ _ _ _ f1 h1 ea ep hr f2 k2 ?_⟩
    rw [hp, hrm] at e2
    exact e2
  | 5, [m], hv, hl, q, fin, finR =>
    refine ⟨_, rfl, rfl, _, rfl, no_ (by decide) ?_⟩
    refine ⟨_, rfl, rfl, _, rfl, no_ (by decide) ?_⟩
    refine ⟨_, rfl, rfl, _, rfl, no_ (by decide) ?_⟩
    refine ⟨_, rfl, o.a, _, _, rfl, h.obj, rfl, _, rfl, l, _, _, _, rfl, rfl, SqL.of hl, atI_nat (j := 0) rfl, _, o, m, x, rfl, h, hx, hv, fun H1 o1 r f1 h1 ea ep hr hrm => ?_⟩
    have hp := h1.prg hr (ep.trans hx)
    refine ⟨_, rfl, rfl, _, rfl, no_ (by decide) ?_⟩
    refine ⟨_, rfl, rfl, _, rfl, no_ (by decide) ?_⟩
    refine ⟨_, rfl, rfl, _, rfl, yes_ rfl ?_⟩
    refine ⟨_, rfl, _, r, rfl, (h1.rch r hr).2, fun H2 a f2 k2 _ e2 => finR _ _ _ _ _ f1 h1 ea ep hr f2 k2 ?_⟩
    rw [hp, hrm] at e2
    exact e2
  | 7, [m, k, g], hv, hl, q, fin, finR =>
    refine ⟨_, rfl, rfl, _, rfl, no_ (by decide) ?_⟩
    refine ⟨_, rfl, rfl, _, rfl, no_ (by decide) ?_⟩
    refine ⟨_, rfl, rfl, _, rfl, no_ (by decide) ?_⟩
    refine ⟨_, rfl, o.a, _, _, rfl, h.obj, rfl, _, rfl, l, _, _, _, rfl, rfl, SqL.of hl, atI_nat (j := 0) rfl, _, o, m, x, rfl, h, hx, hv.1, fun H1 o1 r f1 h1 ea ep hr hrm => ?_⟩
    have hp := h1.prg hr (ep.trans hx)
    have hl1 := h.lst f1 hl
    refine ⟨_, rfl, rfl, _, rfl, no_ (by decide) ?_⟩
    refine ⟨_, rfl, rfl, _, rfl, no_ (by decide) ?_⟩
    refine ⟨_, rfl, rfl, _, rfl, no_ (by decide) ?_⟩
    refine ⟨_, rfl, rfl, _, rfl, yes_ rfl ?_⟩
    refine ⟨_, rfl, _, rfl, l, _, _, _, rfl, rfl, SqL.of hl1, atI_nat (j := 1) rfl, _, rfl, l, _, _, _, rfl, rfl, SqL.of hl1, atI_nat (j := 2) rfl, _, r, k, g, rfl, (h1.rch r hr).2, by rw [hp]; exact hv.2.1, by rw [hp]; exact hv.2.2, fun H2 a f2 k2 _ e2 => finR _ _ _ _ _ f1 h1 ea ep hr f2 k2 ?_⟩
    rw [hp, hrm] at e2
    exact e2
  | 8, [m], hv, hl, q, fin, finR =>
    refine ⟨_, rfl, rfl, _, rfl, no_ (by decide) ?_⟩
    refine ⟨_, rfl, rfl, _, rfl, no_ (by decide) ?_⟩
    refine ⟨_, rfl, rfl, _, rfl, no_ (by decide) ?_⟩
    refine ⟨_, rfl, o.a, _, _, rfl, h.obj, rfl, _, rfl, l, _, _, _, rfl, rfl, SqL.of hl, atI_nat (j := 0) rfl, _, o, m, x, rfl, h, hx, hv, fun H1 o1 r f1 h1 ea ep hr hrm => ?_⟩
    have hp := h1.prg hr (ep.trans hx)
    refine ⟨_, rfl, rfl, _, rfl, no_ (by decide) ?_⟩
    refine ⟨_, rfl, rfl, _, rfl, no_ (by decide) ?_⟩
    refine ⟨_, rfl, rfl, _, rfl, no_ (by decide) ?_⟩
    refine ⟨_, rfl, rfl, _, rfl, no_ (by decide) ?_⟩
    have ht : (He.cT K hvD).2 ≠ r.dk := by
      obtain ⟨ps, e, _⟩ := h1.tab
      obtain ⟨kvs, e2⟩ := (h1.rch r hr).2.dk_some
      exact ne_kind e e2 (by intro z; cases z)
    refine ⟨_, rfl, _, r, rfl, (h1.rch r hr).2, but_in.mpr ⟨M_in.mpr (.inl rfl), ht⟩, h1.tab, fun H2 a f2 k2 t2 _ e2 => ?_⟩
    obtain ⟨h2, f3⟩ := h1.call hr f2 k2 t2
    rw [hp, hrm] at e2
    exact q H2 o1 a (f1.trans f3) h2 ea ep e2
end
end Vf

set_option Elab.async false
set_option linter.all false
set_option maxRecDepth 100000
set_option maxHeartbeats 4000000
/-! The object of the calls: load. -/
namespace Vf
open PySem PySem.Spec PyProof.Rows L2
open VakepBase (Bytes)
open Vakepa (Prog total)
open Vakepb (reachedBy lost tables)
section
variable {P : Program} {w : World} {K : PySem.W.Frag} {mg : Str → Option Value} {base : Heap}
theorem ecl_self {C : Addr} (e : Ecl K C) : PySem.W.subIn K (.ref C) (.ref C) = some true := by
  obtain ⟨nm, q, N, bs, sn, sub, ab, col, dd, k0, k1, k2, k3, k5, h⟩ := e.cls
  unfold PySem.W.subIn PySem.W.mroIn PySem.W.clsIn
  dsimp only
  rw [h]
  simp [excClassObj]
abbrev Hld.prg (o : Hld) : Option Prog := o.pv.map (·.2)
abbrev N_Holder_load : List Str := ["self", "codes", "program", "fault", "settings", "assignments"]
abbrev P_Holder_load : List Str := ["self", "codes"]
theorem sc_Holder_load : FnScope N_Holder_load P_Holder_load (defScope s_Holder_load) := ⟨rfl, rfl, rfl, by decide +kernel, rfl, by decide +kernel, by decide +kernel⟩
def sp_Holder_load (K : PySem.W.Frag) : Sp := fun vs H Q _ => ∃ (t : Addr) (o : Hld) (la : Addr) (b : Bytes), vs = [.ref o.a, .ref la] ∧ HoldS K t H o ∧ b.length ≤ 10000 ∧ H la = some (.lst (b.map fun c => V.int c.toNat)) ∧
  ∀ (H' : Hp) (o' : Hld) (a : Addr), FrH t o o' H H' → HoldS K t H' o' → o'.a = o.a → o'.prg = (Vakepa.step o.prg (.load b)).1 → H' a = some (.lst (zv (VakepbNeutral.encode (Vakepa.step o.prg (.load b)).2))) → Q (.ref a) H'
theorem ok_Holder_load (T : Tx K mg) (D_read_program : Df P w K mg base (L2.CX P w) (19) (He.ga K "read_program") P_read_program (sp_read_program K)) (D_choices_of : Df P w K mg base CX0 (2) (He.ga K "choices_of") P_choices_of (sp_choices_of K)) : Df P w K mg base CX0 (21) (He.ma K (He.ga K "Holder") "load") P_Holder_load (sp_Holder_load K) := by
  refine df_mk (F_Holder_load T) sc_Holder_load (fun _ _ _ _ _ _ us hl => match us, hl with | [_, _], _ => rfl) (fun vs H Q E h => by obtain ⟨_, _, _, _, rfl, _⟩ := h; rfl) (fun cdv A outer s H vs Q E hr h => ⟨_,
    (pss_cons (ps_try_as (i := 3) rfl rfl sc_Holder_load.nd rfl rfl ⟨rfl, by decide, .inl (g_Fault T)⟩ LamX.takes0 (fun W pn xe tk _ => pss_one (ps_set (i := 2) sc_Holder_load.nd rfl (Or.inl rfl) (pfx D_read_program (g_read_program T) tk hr (pa_cons (pv 1) pa_nil))))
      (fun a oe cls d pn hz hf => pss_one (ps_ret (pe_lst (pa_cons pe_int (pa_cons (pe_xf (C := He.ga K "Fault") (xfB_ok (e_3 T)) (of_decide_eq_true (e_4 T)) hz hf (pv 3)) (pa_cons (pe_xf (C := He.ga K "Fault") (xfB_ok (e_3 T)) (of_decide_eq_true (e_5 T)) hz hf (pv 3)) pa_nil)))))))
    (pss_cons (ps_fld (pv 0) (pv 2) rfl)
    (pss_cons (ps_fld (pv 0) pe_dnewK rfl)
    (pss_cons (ps_set (i := 4) sc_Holder_load.nd rfl (Or.inl rfl) (pe_callB call_len_seq (by rfl) (b_len T) PySem.boot_len (pa_cons (pe_fld (pv 2) rfl) pa_nil)))
    (pss_cons (ps_set (i := 5) sc_Holder_load.nd rfl (Or.inl rfl) (pe_callB call_len_seq (by rfl) (b_len T) PySem.boot_len (pa_cons (pf D_choices_of (g_choices_of T) hr (pa_cons (pv 2) pa_nil)) pa_nil)))
    (pss_one (ps_ret (pe_lst (pa_cons pe_int (pa_cons (pv 4) (pa_cons (pe_callB call_len_seq (by rfl) (b_len T) PySem.boot_len (pa_cons (pe_fld (pv 2) rfl) pa_nil)) (pa_cons (pe_callB call_len_seq (by rfl) (b_len T) PySem.boot_len (pa_cons (pe_fld (pv 2) rfl) pa_nil)) (pa_cons (pv 5) pa_nil))))))))))))), ?_⟩)
  obtain ⟨t, o, la, b, rfl, h, hb, hl, q⟩ := h
  refine ⟨_, rfl, la, b, rfl, hb, SqL.of hl, fun f hf d H1 s1 hF => ?_, fun p hp pa H1 s1 hP => ?_⟩
  · have hs : Vakepa.step o.prg (.load b) = (o.prg, VakepBase.faulty f) := by
      simp only [Vakepa.step, hf]
    rw [hs] at q
    refine ⟨true, PySem.W.exm_ref (xfB_ok (e_3 T)).exC (xfB_ok (e_3 T)).hdC (ecl_of (e_2 T)).ty (ecl_self (ecl_of (e_2 T))), fun _ a ha => ?_, fun z => nomatch z⟩
    refine ⟨_, rfl, rfl, rfl, d, _, _, rfl, hF, rfl, _, rfl, rfl, rfl, d, _, _, rfl, hF, rfl, by show 3 ≤ sizeLine; decide, fun l hl2 => ?_⟩
    have s2 := s1.trans (same_new (o := .lst [V.int 0, V.int f.code, V.int f.place]) hl2)
    exact q _ o l (off_same s2) (h.same s2) rfl rfl upd_same
  · have hs : Vakepa.step o.prg (.load b) = (some p, ⟨1, Vakepa.nats [p.sets.length, p.parts.length, p.starts.length, total p]⟩) := by
      simp only [Vakepa.step, hp]
    rw [hs] at q
    have hw := read_wf hp
    obtain ⟨ps, ht, _⟩ := id h.tab
    have o1 := s1 _ _ h.obj
    have hP2 : ProgAt K (Off [t, o.a] H1) pa p := hP.off fun x hx u e => by
      rcases List.mem_cons.mp hx with z | z
      · rw [z, s1 _ _ ht] at e
        rw [← Option.some.inj e]
        exact ⟨(fun g => g), (fun kvs y => by cases y)⟩
      · rw [List.mem_singleton.mp z, o1] at e
        rw [← Option.some.inj e]
        exact ⟨(fun g => by cases (show (some (V.ref o.rd) : Option V) = none from g)), (fun kvs y => by cases y)⟩
    refine ⟨_, rfl, _, rfl, o.a, _, o.dx, _, rfl, o1, c_Holder T, n_Holder_program T, (by show 2 < 1000; decide), ?_⟩
    refine fun rd hrd => ?_
    have o2 : upd H1 o.a (.ins (He.ga K "Holder") o.dx [("program", .ref pa), ("reaches", .ref o.rd)]) o.a = some (.ins (He.ga K "Holder") o.dx [("program", .ref pa), ("reaches", .ref o.rd)]) := upd_same
    have ne : rd ≠ o.a := fun z => by
      rw [z] at hrd
      have y := o2.symm.trans hrd
      cases y
    have hrd1 : H1 rd = none := (upd_ne ne).symm.trans hrd
    refine ⟨_, rfl, o.a, _, o.dx, _, rfl, (by rw [upd_ne (Ne.symm ne)]; exact o2), c_Holder T, n_Holder_reaches T, (by show 2 < 1000; decide), ?_⟩
    have e3 : upd (upd (upd H1 o.a (.ins (He.ga K "Holder") o.dx [("program", .ref pa), ("reaches", .ref o.rd)])) rd (.dK [])) o.a (.ins (He.ga K "Holder") o.dx [("program", .ref pa), ("reaches", .ref rd)]) o.a = some (.ins (He.ga K "Holder") o.dx [("program", .ref pa), ("reaches", .ref rd)]) := upd_same
    have k3 : ∀ x u, x ≠ o.a → H1 x = some u → upd (upd (upd H1 o.a (.ins (He.ga K "Holder") o.dx [("program", .ref pa), ("reaches", .ref o.rd)])) rd (.dK [])) o.a (.ins (He.ga K "Holder") o.dx [("program", .ref pa), ("reaches", .ref rd)]) x = some u := fun x u n e => by
      rw [upd_ne n, upd_ne (ne_of_none e hrd1), upd_ne n]
      exact e
    have d3 : upd (upd (upd H1 o.a (.ins (He.ga K "Holder") o.dx [("program", .ref pa), ("reaches", .ref o.rd)])) rd (.dK [])) o.a (.ins (He.ga K "Holder") o.dx [("program", .ref pa), ("reaches", .ref rd)]) rd = some (.dK []) := by
      rw [upd_ne ne, upd_same]
    show tSeq _ _ _ _ (upd (upd (upd H1 o.a (.ins (He.ga K "Holder") o.dx [("program", .ref pa), ("reaches", .ref o.rd)])) rd (.dK [])) o.a (.ins (He.ga K "Holder") o.dx [("program", .ref pa), ("reaches", .ref rd)]))
    generalize upd (upd (upd H1 o.a (.ins (He.ga K "Holder") o.dx [("program", .ref pa), ("reaches", .ref o.rd)])) rd (.dK [])) o.a (.ins (He.ga K "Holder") o.dx [("program", .ref pa), ("reaches", .ref rd)]) = H3 at e3 k3 d3 ⊢
    have g3 : Same (Off [t, o.a] H1) (Off [t, o.a, rd] H3) := fun x u e => by
      obtain ⟨z1, z2⟩ := off_some.mp e
      have n1 : x ≠ rd := ne_of_none z2 hrd1
      refine off_some.mpr ⟨fun z => ?_, k3 x u (fun y => z1 (by rw [y]; simp)) z2⟩
      rcases List.mem_cons.mp z with y | y
      · exact z1 (by rw [y]; simp)
      · rcases List.mem_cons.mp y with y | y
        · exact z1 (by rw [y]; simp)
        · exact n1 (List.mem_singleton.mp y)
    have h3 : HoldS K t H3 ⟨o.a, o.dx, rd, some (pa, p), []⟩ := by
      refine ⟨e3, d3, tab_fr (M := [o.a]) (M' := [o.a]) (h.tab.ext s1) (fun z => ne_kind ht h.obj (by intro z; cases z) (List.mem_singleton.mp z)) (fun m hm c z => ?_) (fun x u e => ?_), List.nodup_nil, List.nodup_nil, fun y e => ?_, fun r hr => nomatch hr⟩
      · rw [List.mem_singleton.mp hm, o1] at z
        have z2 := Option.some.inj z
        unfold LamX.CodeO at z2
        cases z2
      · obtain ⟨z1, z2⟩ := off_some.mp e
        exact off_some.mpr ⟨z1, k3 x u (fun y => z1 (by rw [y]; simp)) z2⟩
      · cases e
        exact ⟨hw, hP2.same g3⟩
    have f3 : FrH t o ⟨o.a, o.dx, rd, some (pa, p), []⟩ H H3 := fun x u e => by
      obtain ⟨z1, z2⟩ := off_some.mp e
      exact g3 x u (off_some.mpr ⟨fun z => z1 (by
        rcases List.mem_cons.mp z with y | y
        · rw [y]
          exact M_in.mpr (.inl rfl)
        · rw [List.mem_singleton.mp y]
          exact M_in.mpr (.inr (.inl rfl))), s1 _ _ z2⟩)
    have hP3 := hP2.same (g3.trans off_le)
    obtain ⟨dxP, lS, lP, lE, dN, sa, pl, p1, p2, p3, p4, p5, p6, p7⟩ := id hP3
    refine ⟨_, rfl, pa, _, dxP, _, _, rfl, p1, c_Program T, n_Program_settings T, rfl, lS, _, rfl, .inl (SqL.of p2), ?_⟩
    refine ⟨_, rfl, pa, p, rfl, hP3, hw, fun lc ds H4 s4 _ e4 a4 _ => ?_⟩
    refine ⟨lc, _, rfl, .inl (SqL.of e4), ?_⟩
    refine ⟨_, rfl, _, rfl, pa, _, dxP, _, _, rfl, s4 _ _ p1, c_Program T, n_Program_parts T, rfl, lP, _, rfl, .inl (SqL.of (s4 _ _ p4)), _, rfl, pa, _, dxP, _, _, rfl, s4 _ _ p1, c_Program T, n_Program_entries T, rfl, lE, _, rfl, .inl (SqL.of (s4 _ _ p6)), _, rfl, by show 5 ≤ sizeLine; decide, fun l hl5 => ?_⟩
    have l1 : (sa.map V.ref).length = p.sets.length := by rw [List.length_map, p3.len]
    have l2 : (pl.map V.ref).length = p.parts.length := by rw [List.length_map, p5.len]
    have l3 : (p.starts.map fun (k : Nat) => V.int k).length = p.starts.length := List.length_map _
    have l4 : (ds.map V.ref).length = total p := by rw [List.length_map, a4.len, List.length_range]
    rw [l1, l2, l3, l4] at *
    have s5 := s4.trans (same_new (o := .lst [V.int 1, V.int (p.sets.length : Nat), V.int (p.parts.length : Nat), V.int (p.starts.length : Nat), V.int (total p : Nat)]) hl5)
    exact q _ _ l (f3.trans (off_same s5)) (h3.same s5) rfl rfl upd_same
end
end Vf

set_option Elab.async false
set_option linter.all false
set_option maxRecDepth 100000
set_option maxHeartbeats 4000000
/-! The object of the calls: what a call other than load answers. -/
namespace Vf
open PySem PySem.Spec PyProof.Rows L2
open VakepBase (Bytes)
open Vakepa (Prog total)
section
variable {P : Program} {w : World} {K : PySem.W.Frag} {mg : Str → Option Value} {base : Heap}
def ansOf : Option Prog → Nat → List Int → List Int
  | none, _, _ => [-1]
  | some p, c, zs => if mdB c zs = true then (if ptB c zs p = true then tellAns p c (zs.map Int.toNat) else [-4]) else [-2]
theorem wd10 : ∀ c, c < 9 → wdOf c ≤ 10 := by decide +kernel
theorem ix_nat {z : Int} {n : Nat} (h : (decide (0 ≤ z) && decide (z < (n : Int))) = true) : ∃ k : Nat, z = (k : Int) ∧ k < n := by
  simp only [Bool.and_eq_true, decide_eq_true_eq] at h
  exact ⟨z.toNat, by omega, by omega⟩
theorem len1 {zs : List Int} (h : zs.length = 1) : ∃ a, zs = [a] := List.length_eq_one_iff.mp h
theorem len2 {zs : List Int} (h : zs.length = 2) : ∃ a b, zs = [a, b] := by
  match zs, h with
  | [a, b], _ => exact ⟨a, b, rfl⟩
theorem len3 {zs : List Int} (h : zs.length = 3) : ∃ a b c, zs = [a, b, c] := by
  match zs, h with
  | [a, b, c], _ => exact ⟨a, b, c, rfl⟩
theorem valid_of {p : Prog} {c : Nat} {zs : List Int} (h1 : 1 ≤ c) (h9 : c < 9) (hl : zs.length = wdOf c) (hm : mdB c zs = true) (hp : ptB c zs p = true) : ∃ ns : List Nat, zs = ns.map (fun (k : Nat) => (k : Int)) ∧ Valid p c ns := by
  unfold ptB at hp
  unfold mdB at hm
  match c, h1, h9 with
  | 1, _, _ => exact ⟨[], List.length_eq_zero_iff.mp hl, True.intro⟩
  | 2, _, _ =>
    obtain ⟨a, b, rfl⟩ := len2 (show zs.length = 2 from hl)
    obtain ⟨m, rfl, h1⟩ := ix_nat (n := 2) hm
    obtain ⟨k, rfl, h2⟩ := ix_nat (n := p.parts.length) (Bool.and_eq_true_iff.mp hp).1
    exact ⟨[m, k], rfl, h1, h2⟩
  | 3, _, _ =>
    obtain ⟨a, b, rfl⟩ := len2 (show zs.length = 2 from hl)
    obtain ⟨m, rfl, h1⟩ := ix_nat (n := 3) hm
    obtain ⟨k, rfl, h2⟩ := ix_nat (n := p.parts.length) (Bool.and_eq_true_iff.mp hp).1
    exact ⟨[m, k], rfl, h1, h2⟩
  | 4, _, _ => exact ⟨[], List.length_eq_zero_iff.mp hl, True.intro⟩
  | 5, _, _ =>
    obtain ⟨a, rfl⟩ := len1 (show zs.length = 1 from hl)
    obtain ⟨m, rfl, h1⟩ := ix_nat (n := 3) hm
    exact ⟨[m], rfl, h1⟩
  | 6, _, _ =>
    obtain ⟨a, b, rfl⟩ := len2 (show zs.length = 2 from hl)
    have hp2 := Bool.and_eq_true_iff.mp hp
    obtain ⟨k, rfl, h1⟩ := ix_nat (n := p.parts.length) hp2.1
    obtain ⟨g, rfl, h2⟩ := ix_nat (n := p.parts.length) (Bool.and_eq_true_iff.mp hp2.2).1
    exact ⟨[k, g], rfl, h1, h2⟩
  | 7, _, _ =>
    obtain ⟨a, b, c, rfl⟩ := len3 (show zs.length = 3 from hl)
    obtain ⟨m, rfl, h0⟩ := ix_nat (n := 3) hm
    have hp2 := Bool.and_eq_true_iff.mp hp
    obtain ⟨k, rfl, h1⟩ := ix_nat (n := p.parts.length) hp2.1
    obtain ⟨g, rfl, h2⟩ := ix_nat (n := p.parts.length) (Bool.and_eq_true_iff.mp hp2.2).1
    exact ⟨[m, k, g], rfl, h0, h1, h2⟩
  | 8, _, _ =>
    obtain ⟨a, rfl⟩ := len1 (show zs.length = 1 from hl)
    obtain ⟨m, rfl, h1⟩ := ix_nat (n := 3) hm
    exact ⟨[m], rfl, h1⟩
abbrev N_Holder_answer : List Str := ["self", "call", "values"]
abbrev P_Holder_answer : List Str := ["self", "call", "values"]
theorem sc_Holder_answer : FnScope N_Holder_answer P_Holder_answer (defScope s_Holder_answer) := ⟨rfl, rfl, rfl, by decide +kernel, rfl, by decide +kernel, by decide +kernel⟩
def sp_Holder_answer (K : PySem.W.Frag) : Sp := fun vs H Q _ => ∃ (o : Hld) (c : Nat) (l : Addr) (zs : List Int), vs = [.ref o.a, .int c, .ref l] ∧ HoldS K (He.cT K hvD).2 H o ∧ 1 ≤ c ∧ c < 9 ∧ zs.length = wdOf c ∧ H l = some (.lst (zv zs)) ∧
  ∀ (H' : Hp) (o' : Hld) (a : Addr), FrH (He.cT K hvD).2 o o' H H' → HoldS K (He.cT K hvD).2 H' o' → o'.a = o.a → o'.pv = o.pv → H' a = some (.lst (zv (ansOf o.prg c zs))) → Q (.ref a) H'
theorem ok_Holder_answer (T : Tx K mg) (D_has_mode : Df P w K mg base CX0 (1) (He.ga K "has_mode") P_has_mode sp_has_mode) (D_has_parts : Df P w K mg base CX0 (1) (He.ga K "has_parts") P_has_parts (sp_has_parts K)) (D_Holder_tell : Df P w K mg base CX0 (106) (He.ma K (He.ga K "Holder") "tell") P_Holder_tell (sp_Holder_tell K)) : Df P w K mg base CX0 (108) (He.ma K (He.ga K "Holder") "answer") P_Holder_answer (sp_Holder_answer K) := by
  refine df_mk (F_Holder_answer T) sc_Holder_answer (fun _ _ _ _ _ _ us hl => match us, hl with | [_, _, _], _ => rfl) (fun vs H Q E h => by obtain ⟨_, _, _, _, rfl, _⟩ := h; rfl) (fun cdv A outer s H vs Q E hr h => ⟨_, (pss_cons (ps_if (pt_cmpR op_isN (pe_fld (pv 0) rfl) pe_non (nomark _)) (pss_one (ps_ret (pe_lst (pa_cons (pe_un un_neg (pg (i_NO_PROGRAM T))) pa_nil)))) pss_nil) (pss_cons (ps_if (pt_not (pt_val (pf D_has_mode (g_has_mode T) hr (pa_cons (pv 1) (pa_cons (pv 2) pa_nil))))) (pss_one (ps_ret (pe_lst (pa_cons (pe_un un_neg (pg (i_NO_MODE T))) pa_nil)))) pss_nil) (pss_cons (ps_if (pt_not (pt_val (pf D_has_parts (g_has_parts T) hr (pa_cons (pv 1) (pa_cons (pv 2) (pa_cons (pe_fld (pv 0) rfl) pa_nil)))))) (pss_one (ps_ret (pe_lst (pa_cons (pe_un un_neg (pg (i_NO_PART T))) pa_nil)))) pss_nil) (pss_one (ps_ret (pm D_Holder_tell (c_Holder T) (m_Holder_tell T)  hr (pv 0) (pa_cons (pv 1) (pa_cons (pv 2) pa_nil)))))))), ?_⟩)
  obtain ⟨o, c, l, zs, rfl, h, h1, h9, hzl, hl, q⟩ := h
  refine ⟨_, rfl, o.a, _, o.dx, _, _, rfl, h.obj, c_Holder T, n_Holder_program T, rfl, ?_⟩
  refine ⟨rfl, _, rfl, ?_⟩
  have pos : mdOf c ≠ 0 → 0 < zs.length := fun z => by
    rw [hzl]
    unfold wdOf
    omega
  have hpl : ptOf c ≤ zs.length := by
    rw [hzl]
    unfold wdOf
    omega
  have h10 : zs.length ≤ 10 := by
    rw [hzl]
    exact wd10 c h9
  have one : ∀ (H1 : Hp) (z : Int), Same H H1 → ansOf o.prg c zs = [z] → ∀ a, H1 a = none → Q (.ref a) (upd H1 a (.lst [V.int z])) := fun H1 z s1 e a ha => by
    have s2 := s1.trans (same_new (o := .lst [V.int z]) ha)
    exact q _ o a (off_same s2) (h.same s2) rfl rfl (by rw [upd_same, e] <;> rfl)
  cases hpv : o.pv with
  | none =>
    refine iteD (fun _ => ?_) (fun z => absurd rfl z)
    refine ⟨_, rfl, by show 1 ≤ sizeLine; decide, one H (-1) (Same.refl _) (by unfold Hld.prg; rw [hpv] <;> rfl)⟩
  | some x =>
    refine iteD (fun z => nomatch z) (fun _ => ?_)
    have hans : ansOf o.prg c zs = if mdB c zs = true then (if ptB c zs x.2 = true then tellAns x.2 c (zs.map Int.toNat) else [-4]) else [-2] := by
      unfold Hld.prg
      rw [hpv]
      rfl
    refine ⟨_, rfl, _, rfl, c, l, zs, rfl, h9, hl, pos, _, rfl, ?_⟩
    cases hm : mdB c zs with
    | false =>
      rw [hm] at hans
      refine iteT ?_
      exact ⟨_, rfl, by show 1 ≤ sizeLine; decide, one H (-2) (Same.refl _) hans⟩
    | true =>
      rw [hm] at hans
      refine iteF ?_
      obtain ⟨hw, hp⟩ := h.prog x hpv
      refine ⟨_, rfl, _, rfl, _, rfl, o.a, _, o.dx, _, _, rfl, h.obj, c_Holder T, n_Holder_program T, rfl, c, l, x.1, zs, x.2, by rw [hpv] <;> rfl, h9, hl, hpl, h10, hp.same off_le, fun H1 s1 => ⟨_, rfl, ?_⟩⟩
      cases hpt : ptB c zs x.2 with
      | false =>
        rw [hpt] at hans
        refine iteT ?_
        exact ⟨_, rfl, by show 1 ≤ sizeLine; decide, one H1 (-4) s1 hans⟩
      | true =>
        rw [hpt] at hans
        refine iteF ?_
        obtain ⟨ns, e, hv⟩ := valid_of h1 h9 hzl hm hpt
        have e2 : zs.map Int.toNat = ns := by
          rw [e, List.map_map]
          exact List.map_id'' (fun _ => rfl) ns
        have e3 : zv zs = iv ns := by
          rw [e]
          unfold zv
          rw [List.map_map]
          rfl
        rw [e2] at hans
        refine ⟨_, rfl, o.a, _, _, rfl, s1 _ _ h.obj, rfl, _, rfl, _, rfl, o, c, l, x, ns, rfl, h.same s1, hpv, hv, by rw [← e3]; exact s1 _ _ hl, fun H2 o2 a f2 h2 ea ep e4 => q H2 o2 a ((off_same s1).trans f2) h2 ea ep ?_⟩
        rw [hans]
        exact e4
end
end Vf

set_option Elab.async false
set_option linter.all false
set_option maxRecDepth 100000
set_option maxHeartbeats 4000000
/-! The calls as one list of whole numbers, its answers as one. -/
namespace Vf
open PySem PySem.Spec PyProof.Rows L2
open Vakepa (Prog)
open VakepBase (Bytes)
theorem whole_id (c : List (List Int)) : PyVakepb.whole c = c := by
  unfold PyVakepb.whole
  split <;> rfl
theorem wholes (cs : List (List (List Int))) : cs.map PyVakepb.whole = cs := by
  induction cs with
  | nil => rfl
  | cons c cs ih => rw [List.map_cons, ih, whole_id]
theorem call_load {r : List Int} {c : List (List Int)} {t : List Int} (h : PyFlat.call PyVakepb.shape (0 :: r) = some (c, t)) : ∃ bs : List Int, r = (bs.length : Int) :: (bs ++ t) ∧ c = [[0], bs] := by
  have e : PyVakepb.shape 0 = some (0, 1) := rfl
  simp only [PyFlat.call, e, Nat.not_lt_zero, if_false, List.drop_zero, List.take_zero] at h
  unfold PyFlat.rows at h
  cases r with
  | nil => simp [PyFlat.row] at h
  | cons n r =>
    by_cases hn : 0 ≤ n ∧ n.toNat ≤ r.length
    · simp only [PyFlat.row, if_pos hn, PyFlat.rows, Option.some.injEq, Prod.mk.injEq] at h
      obtain ⟨h1, h2⟩ := h
      refine ⟨r.take n.toNat, ?_, h1.symm⟩
      rw [← h2, List.take_append_drop, List.length_take, Nat.min_eq_left hn.2, Int.toNat_of_nonneg hn.1]
    · simp only [PyFlat.row, if_neg hn] at h
      cases h
theorem call_w {p : Int} {n : Nat} {r : List Int} {c : List (List Int)} {t : List Int} (e : PyVakepb.shape p = some (n, 0)) (h : PyFlat.call PyVakepb.shape (p :: r) = some (c, t)) : ∃ zs, zs.length = n ∧ r = zs ++ t ∧ c = [p :: zs] := by
  simp only [PyFlat.call, e, PyFlat.rows] at h
  by_cases hn : r.length < n
  · rw [if_pos hn] at h
    cases h
  · rw [if_neg hn] at h
    simp only [Option.some.injEq, Prod.mk.injEq] at h
    obtain ⟨h1, h2⟩ := h
    refine ⟨r.take n, by rw [List.length_take]; omega, by rw [← h2, List.take_append_drop], h1.symm⟩
theorem call_k {p : Int} {r : List Int} {c : List (List Int)} {t : List Int} (hp : p ≠ 0) (h : PyFlat.call PyVakepb.shape (p :: r) = some (c, t)) :
    ∃ k : Nat, p = (k : Int) ∧ 1 ≤ k ∧ k < 9 ∧ ∃ zs, zs.length = wdOf k ∧ r = zs ++ t ∧ c = [(k : Int) :: zs] := by
  have go : ∀ k : Nat, p = (k : Int) → 1 ≤ k → k < 9 → PyVakepb.shape p = some (wdOf k, 0) → ∃ k : Nat, p = (k : Int) ∧ 1 ≤ k ∧ k < 9 ∧ ∃ zs, zs.length = wdOf k ∧ r = zs ++ t ∧ c = [(k : Int) :: zs] := fun k e h1 h9 hs => by
    obtain ⟨zs, a1, a2, a3⟩ := call_w hs h
    exact ⟨k, e, h1, h9, zs, a1, a2, by rw [a3, e]⟩
  by_cases h1 : p = 1
  · exact go 1 h1 (by omega) (by omega) (by rw [h1] <;> rfl)
  by_cases h2 : p = 2
  · exact go 2 h2 (by omega) (by omega) (by rw [h2] <;> rfl)
  by_cases h3 : p = 3
  · exact go 3 h3 (by omega) (by omega) (by rw [h3] <;> rfl)
  by_cases h4 : p = 4
  · exact go 4 h4 (by omega) (by omega) (by rw [h4] <;> rfl)
  by_cases h5 : p = 5
  · exact go 5 h5 (by omega) (by omega) (by rw [h5] <;> rfl)
  by_cases h6 : p = 6
  · exact go 6 h6 (by omega) (by omega) (by rw [h6] <;> rfl)
  by_cases h7 : p = 7
  · exact go 7 h7 (by omega) (by omega) (by rw [h7] <;> rfl)
  by_cases h8 : p = 8
  · exact go 8 h8 (by omega) (by omega) (by rw [h8] <;> rfl)
  · have e : PyVakepb.shape p = none := by
      unfold PyVakepb.shape
      rw [if_neg hp, if_neg h1, if_neg h2, if_neg h3, if_neg h4, if_neg h5, if_neg h6, if_neg h7, if_neg h8]
    simp only [PyFlat.call, e] at h
    cases h
/-! ### what each call is due -/
def byteB (bs : List Int) : Prop := ∀ z ∈ bs, 0 ≤ z ∧ z ≤ 255
theorem step_load {s : Option Prog} {bs : List Int} (h : byteB bs) : VakepbNeutral.step s [[0], bs] = ((Vakepa.step s (.load (VakepbNeutral.bytesOf bs))).1, VakepbNeutral.encode (Vakepa.step s (.load (VakepbNeutral.bytesOf bs))).2) := by
  have hb : NeutralIO.bytes bs = true := by
    unfold NeutralIO.bytes
    rw [List.all_eq_true]
    intro z hz
    simp only [Bool.and_eq_true, decide_eq_true_eq]
    exact h z hz
  unfold VakepbNeutral.step VakepbNeutral.callOf
  simp only [hb, if_true]
  rfl
theorem bytes_zv {bs : List Int} (h : byteB bs) : zv bs = (VakepbNeutral.bytesOf bs).map fun c => V.int c.toNat := by
  unfold VakepbNeutral.bytesOf zv
  rw [List.map_map]
  refine List.map_congr_left fun z hz => ?_
  obtain ⟨h1, h2⟩ := h z hz
  show V.int z = V.int ((UInt8.ofNat z.toNat).toNat : Nat)
  rw [UInt8.toNat_ofNat', Nat.mod_eq_of_lt (by show z.toNat < 256; omega), Int.toNat_of_nonneg h1]
theorem idx {z : Int} {n : Nat} : VakepBase.index z n = if (decide (0 ≤ z) && decide (z < (n : Int))) = true then some z.toNat else none := by
  unfold VakepBase.index
  by_cases h : 0 ≤ z ∧ z < (n : Int)
  · rw [if_pos h, if_pos (by simpa using h)]
  · rw [if_neg h, if_neg (by simpa using h)]
theorem enc_mode {m : Int} {n : Nat} {f : Nat → VakepBase.Answer} : VakepbNeutral.encode (Vakepb.withMode m n f) = if (decide (0 ≤ m) && decide (m < (n : Int))) = true then VakepbNeutral.encode (f m.toNat) else [-2] := by
  unfold Vakepb.withMode
  rw [idx]
  cases (decide (0 ≤ m) && decide (m < (n : Int))) <;> rfl
theorem enc_part {p : Prog} {k : Int} {f : Nat → VakepBase.Answer} : VakepbNeutral.encode (Vakepa.withPart p k f) = if (decide (0 ≤ k) && decide (k < (p.parts.length : Int))) = true then VakepbNeutral.encode (f k.toNat) else [-4] := by
  unfold Vakepa.withPart
  rw [idx]
  cases (decide (0 ≤ k) && decide (k < (p.parts.length : Int))) <;> rfl
theorem step_k {s : Option Prog} {k : Nat} {zs : List Int} (h1 : 1 ≤ k) (h9 : k < 9) (hl : zs.length = wdOf k) : VakepbNeutral.step s [(k : Int) :: zs] = (s, ansOf s k zs) := by
  match k, h1, h9 with
  | 1, _, _ =>
    obtain rfl := List.length_eq_zero_iff.mp (show zs.length = 0 from hl)
    cases s <;> rfl
  | 4, _, _ =>
    obtain rfl := List.length_eq_zero_iff.mp (show zs.length = 0 from hl)
    cases s <;> rfl
  | 2, _, _ =>
    obtain ⟨a, b, rfl⟩ := len2 (show zs.length = 2 from hl)
    cases s with
    | none => rfl
    | some p =>
      refine Prod.ext rfl ?_
      show VakepbNeutral.encode (Vakepb.withMode a _ _) = if (decide (0 ≤ a) && decide (a < ((2 : Nat) : Int))) = true then (if ((decide (0 ≤ b) && decide (b < (p.parts.length : Int))) && true) = true then chainAns p a.toNat b.toNat else [-4]) else [-2]
      rw [enc_mode, enc_part, Bool.and_true]
      unfold chainAns
      cases Vakepb.chainOf p a.toNat b.toNat <;> rfl
  | 3, _, _ =>
    obtain ⟨a, b, rfl⟩ := len2 (show zs.length = 2 from hl)
    cases s with
    | none => rfl
    | some p =>
      refine Prod.ext rfl ?_
      show VakepbNeutral.encode (Vakepb.withMode a _ _) = if (decide (0 ≤ a) && decide (a < ((3 : Nat) : Int))) = true then (if ((decide (0 ≤ b) && decide (b < (p.parts.length : Int))) && true) = true then lostAns p a.toNat b.toNat else [-4]) else [-2]
      rw [enc_mode, enc_part, Bool.and_true]
      rfl
  | 5, _, _ =>
    obtain ⟨a, rfl⟩ := len1 (show zs.length = 1 from hl)
    cases s with
    | none => rfl
    | some p =>
      refine Prod.ext rfl ?_
      show VakepbNeutral.encode (Vakepb.withMode a _ _) = if (decide (0 ≤ a) && decide (a < ((3 : Nat) : Int))) = true then sharesAns p a.toNat else [-2]
      rw [enc_mode]
      rfl
  | 6, _, _ =>
    obtain ⟨a, b, rfl⟩ := len2 (show zs.length = 2 from hl)
    cases s with
    | none => rfl
    | some p =>
      refine Prod.ext rfl ?_
      show VakepbNeutral.encode (Vakepa.withPart p a _) = if ((decide (0 ≤ a) && decide (a < (p.parts.length : Int))) && ((decide (0 ≤ b) && decide (b < (p.parts.length : Int))) && true)) = true then aroundAns p a.toNat b.toNat else [-4]
      rw [enc_part, enc_part, Bool.and_true]
      cases (decide (0 ≤ a) && decide (a < (p.parts.length : Int))) with
      | false => rfl
      | true =>
        cases (decide (0 ≤ b) && decide (b < (p.parts.length : Int))) with
        | false => rfl
        | true =>
          unfold aroundAns
          show VakepbNeutral.encode (match Vakepb.around p a.toNat b.toNat with
            | none => VakepBase.one 0
            | some c => ⟨1, Vakepb.listRow c⟩) = _
          cases Vakepb.around p a.toNat b.toNat <;> rfl
  | 7, _, _ =>
    obtain ⟨m, a, b, rfl⟩ := len3 (show zs.length = 3 from hl)
    cases s with
    | none => rfl
    | some p =>
      refine Prod.ext rfl ?_
      show VakepbNeutral.encode (Vakepb.withMode m _ _) = if (decide (0 ≤ m) && decide (m < ((3 : Nat) : Int))) = true then (if ((decide (0 ≤ a) && decide (a < (p.parts.length : Int))) && ((decide (0 ≤ b) && decide (b < (p.parts.length : Int))) && true)) = true then bothAns p m.toNat a.toNat b.toNat else [-4]) else [-2]
      rw [enc_mode, enc_part, enc_part, Bool.and_true]
      cases (decide (0 ≤ a) && decide (a < (p.parts.length : Int))) with
      | false => rfl
      | true =>
        cases (decide (0 ≤ b) && decide (b < (p.parts.length : Int))) <;> rfl
  | 8, _, _ =>
    obtain ⟨a, rfl⟩ := len1 (show zs.length = 1 from hl)
    cases s with
    | none => rfl
    | some p =>
      refine Prod.ext rfl ?_
      show VakepbNeutral.encode (Vakepb.withMode a _ _) = if (decide (0 ≤ a) && decide (a < ((3 : Nat) : Int))) = true then heavyAns p a.toNat else [-2]
      rw [enc_mode]
      rfl
/-! ### call by call -/
/-- what is left of the list, and what it is due -/
structure Left (s : Option Prog) (l : List Int) (due : List Int) : Prop where
  ex : ∃ f raw, PyFlat.calls PyVakepb.shape f l = some raw ∧ PyInside.calls PyVakepb.bound raw = true ∧ due = PyFlat.told (PyFlat.played VakepbNeutral.step s raw)
theorem Left.nil {s : Option Prog} {due : List Int} (h : Left s [] due) : due = [] := by
  obtain ⟨f, raw, h1, _, h2⟩ := h.ex
  have e : raw = [] := by
    cases f <;> · unfold PyFlat.calls at h1
                  exact (Option.some.inj h1).symm
  rw [h2, e] <;> rfl
theorem Left.cons {s : Option Prog} {p : Int} {r due : List Int} (h : Left s (p :: r) due) : ∃ c t, PyFlat.call PyVakepb.shape (p :: r) = some (c, t) ∧ PyInside.call PyVakepb.bound c = true ∧
    ∃ rest, Left (VakepbNeutral.step s c).1 t rest ∧ due = (((VakepbNeutral.step s c).2.length : Int) :: (VakepbNeutral.step s c).2) ++ rest := by
  obtain ⟨f, raw, h1, h2, h3⟩ := h.ex
  cases f with
  | zero => cases h1
  | succ f =>
    unfold PyFlat.calls at h1
    cases e : PyFlat.call PyVakepb.shape (p :: r) with
    | none =>
      rw [e] at h1
      cases h1
    | some ct =>
      obtain ⟨c, t⟩ := ct
      rw [e] at h1
      dsimp only at h1
      cases e2 : PyFlat.calls PyVakepb.shape f t with
      | none =>
        rw [e2] at h1
        cases h1
      | some cs =>
        rw [e2] at h1
        have e3 := (Option.some.inj h1).symm
        subst e3
        unfold PyInside.calls at h2
        rw [List.all_cons, Bool.and_eq_true] at h2
        exact ⟨c, t, rfl, h2.1, _, ⟨f, cs, e2, h2.2, rfl⟩, by rw [h3] <;> rfl⟩
theorem Left.load {s : Option Prog} {r due : List Int} (h : Left s (0 :: r) due) : ∃ bs t : List Int, r = (bs.length : Int) :: (bs ++ t) ∧ byteB bs ∧ bs.length ≤ 8192 ∧
    ∃ rest, Left (Vakepa.step s (.load (VakepbNeutral.bytesOf bs))).1 t rest ∧ due = (((VakepbNeutral.encode (Vakepa.step s (.load (VakepbNeutral.bytesOf bs))).2).length : Int) :: VakepbNeutral.encode (Vakepa.step s (.load (VakepbNeutral.bytesOf bs))).2) ++ rest := by
  obtain ⟨c, t, h1, h2, rest, h3, h4⟩ := h.cons
  obtain ⟨bs, e1, rfl⟩ := call_load h1
  have e2 : ((decide (0 ≤ bs.length) && decide (bs.length ≤ 8192)) && bs.all (PyInside.within 0 255)) && true = true := by
    have z : (true && (((decide (0 ≤ bs.length) && decide (bs.length ≤ 8192)) && bs.all (PyInside.within 0 255)) && true)) = true := h2
    exact z
  simp only [Bool.and_true, Bool.and_eq_true, decide_eq_true_eq, List.all_eq_true] at e2
  have hb : byteB bs := fun z hz => by
    have y := e2.1.2 z hz
    unfold PyInside.within at y
    simpa using y
  rw [step_load hb] at h3 h4
  exact ⟨bs, t, e1, hb, e2.1.1.2, rest, h3, h4⟩
theorem Left.other {s : Option Prog} {p : Int} {r due : List Int} (h : Left s (p :: r) due) (hp : p ≠ 0) : ∃ (k : Nat) (zs t : List Int), p = (k : Int) ∧ 1 ≤ k ∧ k < 9 ∧ zs.length = wdOf k ∧ r = zs ++ t ∧
    ∃ rest, Left s t rest ∧ due = (((ansOf s k zs).length : Int) :: ansOf s k zs) ++ rest := by
  obtain ⟨c, t, h1, h2, rest, h3, h4⟩ := h.cons
  obtain ⟨k, e, a1, a9, zs, hl, er, rfl⟩ := call_k hp h1
  rw [step_k a1 a9 hl] at h3 h4
  exact ⟨k, zs, t, e, a1, a9, hl, er, rest, h3, h4⟩
theorem left_all {l : List Int} (h : PyVakepb.answers_asked l = true) : Left none l (PyVakepb.answers l) ∧ (PyVakepb.answers l).length ≤ 10000000 := by
  unfold PyVakepb.answers_asked at h
  cases e : PyFlat.calls PyVakepb.shape l.length l with
  | none =>
    rw [e] at h
    cases h
  | some raw =>
    rw [e] at h
    simp only [Bool.and_eq_true] at h
    refine ⟨⟨l.length, raw, e, h.1.1.2, ?_⟩, ?_⟩
    · unfold PyVakepb.answers PyVakepb.calls
      rw [e]
      show PyFlat.told (PyFlat.played VakepbNeutral.step VakepbNeutral.start (raw.map PyVakepb.whole)) = _
      rw [wholes] <;> rfl
    · have z := h.2
      unfold PyFlat.short at z
      simpa using z
end Vf

set_option Elab.async false
set_option linter.all false
set_option maxRecDepth 100000
set_option maxHeartbeats 4000000
/-! answers: call by call. -/
namespace Vf
open PySem PySem.Spec PyProof.Rows L2
open VakepBase (Bytes)
open Vakepa (Prog)
section
variable {P : Program} {w : World} {K : PySem.W.Frag} {mg : Str → Option Value} {base : Heap}
theorem sq_keep {H H' : Hp} {a : Addr} {xs : List V} (h : SqL K H a xs) (k : ∀ u, H a = some u → (u = .lst xs ∨ ∃ ob, u = .frz ob (.lst xs)) → H' a = some u) : SqL K H' a xs := by
  rcases h with (e | ⟨ob, e⟩) | h
  · exact .inl (.inl (k _ e (.inl rfl)))
  · exact .inl (.inr ⟨ob, k _ e (.inr ⟨ob, rfl⟩)⟩)
  · exact .inr h
theorem HoldS.has2 {t : Addr} {H : Hp} {o : Hld} (h : HoldS K t H o) {b : Addr} (hb : b ∈ o.M t) : ∃ u, H b = some u ∧ (∀ xs, u ≠ .lst xs) ∧ ∀ ob v, u ≠ .frz ob v := by
  rcases M_in.mp hb with z | z | z | ⟨r, hr, z⟩
  · obtain ⟨ps, e, _⟩ := h.tab
    exact ⟨_, by rw [z]; exact e, (fun xs y => by cases y), (fun ob v y => by cases y)⟩
  · exact ⟨_, by rw [z]; exact h.obj, (fun xs y => by cases y), (fun ob v y => by cases y)⟩
  · exact ⟨_, by rw [z]; exact h.dic, (fun xs y => by cases y), (fun ob v y => by cases y)⟩
  · obtain ⟨kvs, e⟩ := (h.rch r hr).2.dk_some
    exact ⟨_, by rw [← z]; exact e, (fun xs y => by cases y), (fun ob v y => by cases y)⟩
theorem HoldS.sq {t : Addr} {H H' : Hp} {o o' : Hld} {a : Addr} {xs : List V} (h : HoldS K t H o) (f : FrH t o o' H H') (hs : SqL K H a xs) : SqL K H' a xs := by
  refine sq_keep hs fun u e z => off_le _ _ (f a u (off_some.mpr ⟨fun y => ?_, e⟩))
  obtain ⟨u2, e2, n1, n2⟩ := h.has2 y
  rw [e] at e2
  cases e2
  rcases z with z | ⟨ob, z⟩
  · exact n1 _ z
  · exact n2 _ _ z
abbrev N_answers : List Str := ["calls", "holder", "told", "at", "call", "begin", "end", "answer"]
abbrev P_answers : List Str := ["calls"]
theorem sc_answers : FnScope N_answers P_answers (defScope s_answers) := ⟨rfl, rfl, rfl, by decide +kernel, rfl, by decide +kernel, by decide +kernel⟩
def sp_answers (K : PySem.W.Frag) : Sp := fun vs H Q _ => ∃ (a0 : Addr) (l : List Int), vs = [.ref a0] ∧ SqL K H a0 (zv l) ∧ LamX.TabS H (He.cT K hvD).2 hvQ ∧ PyVakepb.answers_asked l = true ∧
  ∀ (H' : Hp) (a : Addr), H' a = some (.lst (zv (PyVakepb.answers l))) → Q (.ref a) H'
/-- where the loop stands: i numbers of l are read -/
def AnsSt (K : PySem.W.Frag) (a0 x td : Addr) (l : List Int) (i : Nat) (σ : L2.St) (H' : Hp) : Prop := i ≤ l.length ∧ ∃ (o : Hld) (y4 y5 y6 y7 : Option V) (Tl due : List Int), σ = [some (.ref a0), some (.ref x), some (.ref td), some (.int (i : Nat)), y4, y5, y6, y7] ∧ o.a = x ∧ HoldS K (He.cT K hvD).2 (delH H' td) o ∧
  H' td = some (.lst (zv Tl)) ∧ SqL K (delH H' td) a0 (zv l) ∧ Left o.prg (l.drop i) due ∧ PyVakepb.answers l = Tl ++ due
theorem ok_answers (T : Tx K mg) (D_Holder_init : Df P w K mg base CX0 (1) (He.ma K (He.ga K "Holder") "__init__") P_Holder_init (sp_Holder_init K)) (D_Holder_load : Df P w K mg base CX0 (21) (He.ma K (He.ga K "Holder") "load") P_Holder_load (sp_Holder_load K)) (D_Holder_answer : Df P w K mg base CX0 (108) (He.ma K (He.ga K "Holder") "answer") P_Holder_answer (sp_Holder_answer K)) (D_width_of : Df P w K mg base CX0 (1) (He.ga K "width_of") P_width_of sp_width_of) : Df P w K mg base CX0 (110) (He.ga K "answers") P_answers (sp_answers K) := by
  refine df_mk (F_answers T) sc_answers (fun _ _ _ _ _ _ us hl => match us, hl with | [_], _ => rfl) (fun vs H Q E h => by obtain ⟨_, _, rfl, _⟩ := h; rfl) (fun cdv A outer s H vs Q E hr h => ⟨_, (pss_cons (ps_set (i := 1) sc_answers.nd rfl (Or.inl rfl) (pk0 D_Holder_init (k_Holder T) (g_Holder T) hr)) (pss_cons (ps_set (i := 2) sc_answers.nd rfl (Or.inl rfl) (pe_lst pa_nil)) (pss_cons (ps_set (i := 3) sc_answers.nd rfl (Or.inl rfl) pe_int) (pss_cons (ps_while PassesOwn.never (pt_cmpR op_lt (pv 3) (pe_callB call_len_seq (by rfl) (b_len T) PySem.boot_len (pa_cons (pv 0) pa_nil)) (nomark _)) (pss_cons (ps_set (i := 4) sc_answers.nd rfl (Or.inl rfl) (pe_ix ix_list (pv 0) (pv 3) (fun _ _ => rfl))) (pss_cons (ps_if (pt_cmpR op_eq (pv 4) (pg (i_LOAD T)) (nomark _)) (pss_cons (ps_set (i := 5) sc_answers.nd rfl (Or.inl rfl) (pe_op op_add (pv 3) pe_int)) (pss_cons (ps_set (i := 6) sc_answers.nd rfl (Or.inl rfl) (pe_op op_add (pv 5) (pe_ix ix_list (pv 0) (pe_op op_add (pv 3) pe_int) (fun _ _ => rfl)))) (pss_one (ps_set (i := 7) sc_answers.nd rfl (Or.inl rfl) (pe_hide (pm D_Holder_load (c_Holder T) (m_Holder_load T)  hr (pv 1) (pa_cons (pe_slice sl_list (pv 0) (po_some (pv 5)) (po_some (pv 6))) pa_nil))))))) (pss_cons (ps_set (i := 5) sc_answers.nd rfl (Or.inl rfl) (pe_op op_add (pv 3) pe_int)) (pss_cons (ps_set (i := 6) sc_answers.nd rfl (Or.inl rfl) (pe_op op_add (pv 5) (pf D_width_of (g_width_of T) hr (pa_cons (pv 4) pa_nil)))) (pss_one (ps_set (i := 7) sc_answers.nd rfl (Or.inl rfl) (pe_hide (pm D_Holder_answer (c_Holder T) (m_Holder_answer T)  hr (pv 1) (pa_cons (pv 4) (pa_cons (pe_slice sl_list (pv 0) (po_some (pv 5)) (po_some (pv 6))) pa_nil))))))))) (pss_cons (ps_expr (pe_bm PySem.F.plainAttrs_list PySem.F.slot_list_append PySem.F.type_list_append mt_append (pv 2) (pa_cons (pe_callB call_len_seq (by rfl) (b_len T) PySem.boot_len (pa_cons (pv 7) pa_nil)) pa_nil))) (pss_cons (ps_expr (pe_bm PySem.F.plainAttrs_list PySem.F.slot_list_extend PySem.F.type_list_extend mt_extend (pv 2) (pa_cons (pv 7) pa_nil))) (pss_one (ps_set (i := 3) sc_answers.nd rfl (Or.inl rfl) (pv 6)))))))) (pss_one (ps_ret (pv 2))))))), ?_⟩)
  obtain ⟨a0, l, rfl, hS, hT, hask, q⟩ := h
  obtain ⟨hleft, hshort⟩ := left_all hask
  have hzl : (zv l).length = l.length := List.length_map _
  refine fun x dx hx hdx ne => ⟨x, dx, rfl, upd_same, fun H1 rd kp o1 d1 => ⟨rfl, ?_⟩⟩
  have s0 : Same H H1 := fun b u e => kp b u (ne_of_none e hx) (by rw [upd_ne (ne_of_none e hx), upd_ne (ne_of_none e hdx)]; exact e)
  have h1 : HoldS K (He.cT K hvD).2 H1 ⟨x, dx, rd, none, []⟩ := ⟨o1, d1, hT.ext s0, List.nodup_nil, List.nodup_nil, (fun y e => by cases e), (fun r hr => nomatch hr)⟩
  have hS1 : SqL K H1 a0 (zv l) := sq_keep hS fun u e _ => s0 _ _ e
  refine ⟨by show 0 ≤ sizeLine; decide, fun td htd => ?_⟩
  refine ⟨fun m σ H' => ∃ i, m = l.length - i ∧ AnsSt K a0 x td l i σ H', ⟨_, 0, rfl, Nat.zero_le _, ⟨x, dx, rd, none, []⟩, none, none, none, none, [], PyVakepb.answers l, rfl, rfl, by rw [delH_new htd]; exact h1, upd_same, by rw [delH_new htd]; exact hS1, hleft, rfl⟩, ?_⟩
  rintro m σ H2 ⟨i, rfl, hi, o, y4, y5, y6, y7, Tl, due, rfl, ho, h2, e2, hS2, hL, hA⟩
  have hS3 : SqL K H2 a0 (zv l) := sq_keep hS2 fun u e _ => by
    have n : a0 ≠ td := fun z => by
      rw [z, delH_same] at e
      cases e
    rw [delH_ne n] at e
    exact e
  refine ⟨_, rfl, _, rfl, a0, zv l, rfl, .inl hS3, _, _, rfl, rfl, _, rfl, ?_⟩
  rw [hzl]
  refine iteD (fun hlt => ?_) (fun hlt => ?_)
  · have hlt : i < l.length := by omega
    obtain ⟨p, r, hd⟩ : ∃ p r, l.drop i = p :: r := ⟨_, _, List.drop_eq_getElem_cons hlt⟩
    rw [hd] at hL
    have hget : ∀ (j : Nat) (z : Int), (p :: r)[j]? = some z → (zv l)[i + j]? = some (V.int z) := fun j z e => by
      rw [← hd, List.getElem?_drop] at e
      unfold zv
      rw [List.getElem?_map, e] <;> rfl
    have hrl : l.length = i + (r.length + 1) := by
      have z := congrArg List.length hd
      rw [List.length_drop, List.length_cons] at z
      omega
    refine ⟨fun σ' H' => ∃ i', i < i' ∧ AnsSt K a0 x td l i' σ' H', fun σ' H' ⟨i', k1, k2⟩ => ⟨_, ?_, i', rfl, k2⟩, ?_⟩
    · obtain ⟨k3, _⟩ := k2
      omega
    -- behind the answer
    have fin : ∀ (i' : Nat) (o' : Hld) (ans rest : List Int) (a : Addr) (H4 : Hp) (z4 z5 z7 : Option V) (e : Int), e = ((i' : Nat) : Int) → i < i' → i' ≤ l.length → FrH (He.cT K hvD).2 o o' (delH H2 td) H4 → HoldS K (He.cT K hvD).2 H4 o' → o'.a = o.a → H4 a = some (.lst (zv ans)) → H4 td = none → Left o'.prg (l.drop i') rest → due = ((ans.length : Int) :: ans) ++ rest →
        (Tl.length < sizeLine ∧ (Tl.length + 1) + ans.length ≤ sizeLine) ∧ a ≠ td ∧ ∃ i'', i < i'' ∧ AnsSt K a0 x td l i'' [some (.ref a0), some (.ref x), some (.ref td), some (.int e), z4, z5, some (.int e), z7] (upd (upd (upd H4 td (.lst (zv Tl))) td (.lst (zv Tl ++ [V.int ((zv ans).length : Nat)]))) td (.lst ((zv Tl ++ [V.int ((zv ans).length : Nat)]) ++ zv ans))) := fun i' o' ans rest a H4 z4 z5 z7 e he k1 k2 f4 h4 ea eans ntd hL4 hdue => by
      have hz := hshort
      rw [hA, hdue] at hz
      simp only [List.length_append, List.length_cons] at hz
      have big : (10000000 : Nat) < sizeLine := by decide
      subst he
      rw [show (zv ans).length = ans.length from List.length_map _]
      refine ⟨⟨by omega, by omega⟩, ne_of_none eans ntd, i', k1, k2, o', z4, z5, _, z7, Tl ++ ((ans.length : Int) :: ans), rest, rfl, ea.trans ho, ?_, ?_, ?_, hL4, ?_⟩
      · rw [upd_upd, upd_upd, delH_new ntd]
        exact h4
      · rw [upd_same]
        unfold zv
        rw [List.map_append, List.map_cons, List.append_assoc] <;> rfl
      · rw [upd_upd, upd_upd, delH_new ntd]
        exact h2.sq f4 hS2
      · rw [hA, hdue, List.append_assoc]
    have hdrop : ∀ n, l.drop (i + n) = (p :: r).drop n := fun n => by rw [← hd, List.drop_drop]
    have zcut : ∀ (n : Nat) (zs t' : List Int), n + zs.length ≤ r.length + 1 → (p :: r).drop n = zs ++ t' → cutV (zv l) (some ((i + n : Nat) : Int)) (some ((i + n + zs.length : Nat) : Int)) = zv zs := fun n zs t' h3 h4 => by
      rw [cut_mid (by omega) (by rw [hzl]; omega)]
      unfold zv
      rw [← List.map_drop, ← List.map_take, hdrop n, h4, Nat.add_sub_cancel_left, List.take_left]
    subst ho
    refine ⟨_, rfl, _, rfl, _, _, _, _, rfl, rfl, hS3, atI_nat (j := i) (hget 0 p rfl), ?_⟩
    refine ⟨_, rfl, rfl, _, rfl, iteD (fun hp => ?_) (fun hp => ?_)⟩
    · have hp0 : p = 0 := V.int.inj hp
      subst hp0
      obtain ⟨bs, t', rfl, hbb, hb8, rest, hL4, hdue⟩ := hL.load
      refine ⟨_, rfl, _, _, rfl, rfl, ?_⟩
      have hix : atI (zv l) ((i : Int) + 1) = some (V.int (bs.length : Nat)) := by
        rw [show (i : Int) + 1 = ((i + 1 : Nat) : Int) by omega]
        exact atI_nat (hget 1 _ rfl)
      refine ⟨_, rfl, _, rfl, _, rfl, _, _, rfl, rfl, _, _, _, _, rfl, rfl, hS3, hix, _, _, rfl, rfl, ?_⟩
      have hcut : cutV (zv l) (some ((i : Int) + 2)) (some ((i : Int) + 2 + (bs.length : Nat))) = zv bs := by
        rw [show (i : Int) + 2 = ((i + 2 : Nat) : Int) by omega, show ((i + 2 : Nat) : Int) + (bs.length : Nat) = ((i + 2 + bs.length : Nat) : Int) by omega]
        exact zcut 2 bs t' (by rw [List.length_cons, List.length_append]; omega) rfl
      refine ⟨td, zv Tl, e2, _, rfl, o.a, _, _, rfl, h2.obj, rfl, _, rfl, _, rfl, _, rfl, _, rfl, _, rfl, a0, zv l, rfl, hS2, fun ln hln => ?_⟩
      have sl := same_new (o := .lst (cutV (zv l) (some ((i : Int) + 2)) (some ((i : Int) + 2 + (bs.length : Nat))))) hln
      refine ⟨_, o, ln, VakepbNeutral.bytesOf bs, rfl, h2.same sl, ?_, ?_, fun H4 o4 a f4 h4 ea ep e4 ntd => ?_⟩
      · unfold VakepbNeutral.bytesOf
        rw [List.length_map]
        omega
      · rw [← bytes_zv hbb, ← hcut]
        exact upd_same
      rw [← ep] at hL4
      obtain ⟨⟨b1, b2⟩, nat, hN⟩ := fin (i + (2 + bs.length)) o4 _ rest a H4 (some (.int 0)) (some (.int ((i : Int) + 2))) (some (.ref a)) ((i : Int) + 2 + (bs.length : Nat)) (by omega) (by omega) (by rw [hrl, List.length_cons, List.length_append]; omega) ((off_same sl).trans f4) h4 ea e4 ntd (by
        rw [hdrop, show (0 :: (bs.length : Int) :: (bs ++ t')).drop (2 + bs.length) = t' from by
          rw [Nat.add_comm, List.drop_succ_cons, List.drop_succ_cons, List.drop_left]]
        exact hL4) hdue
      refine ⟨_, rfl, .inl ⟨rfl, _, SqL.of upd_same⟩, _, rfl, a, _, rfl, .inl (SqL.of (by rw [upd_ne nat]; exact e4)), td, _, _, rfl, rfl, upd_same, (by rw [show (zv Tl).length = Tl.length from List.length_map _]; exact b1), ?_⟩
      refine ⟨_, rfl, .inl ⟨rfl, _, SqL.of upd_same⟩, _, rfl, td, a, _, _, rfl, rfl, upd_same, (by rw [upd_ne nat, upd_ne nat]; exact e4), (by
        unfold zv
        rw [List.length_append, List.length_map, List.length_map]
        exact b2), ?_⟩
      exact ⟨_, rfl, hN⟩
    · have hp0 : p ≠ 0 := fun z => hp (by rw [z])
      obtain ⟨k, zs, t', rfl, a1, a9, hzs, rfl, rest, hL4, hdue⟩ := hL.other hp0
      have hcut : cutV (zv l) (some ((i : Int) + 1)) (some ((i : Int) + 1 + (wdOf k : Nat))) = zv zs := by
        rw [show (i : Int) + 1 = ((i + 1 : Nat) : Int) by omega, ← hzs, show ((i + 1 : Nat) : Int) + (zs.length : Nat) = ((i + 1 + zs.length : Nat) : Int) by omega]
        exact zcut 1 zs t' (by rw [List.length_append]; omega) rfl
      refine ⟨_, rfl, _, _, rfl, rfl, ?_⟩
      refine ⟨_, rfl, _, rfl, k, rfl, a9, _, _, rfl, rfl, ?_⟩
      refine ⟨td, zv Tl, e2, _, rfl, o.a, _, _, rfl, h2.obj, rfl, _, rfl, _, rfl, _, rfl, _, rfl, _, rfl, _, rfl, a0, zv l, rfl, hS2, fun ln hln => ?_⟩
      have sl := same_new (o := .lst (cutV (zv l) (some ((i : Int) + 1)) (some ((i : Int) + 1 + (wdOf k : Nat))))) hln
      refine ⟨o, k, ln, zs, rfl, h2.same sl, a1, a9, hzs, ?_, fun H4 o4 a f4 h4 ea ep e4 ntd => ?_⟩
      · rw [← hcut]
        exact upd_same
      have ep2 : o4.prg = o.prg := by
        unfold Hld.prg
        rw [ep]
      obtain ⟨⟨b1, b2⟩, nat, hN⟩ := fin (i + (1 + zs.length)) o4 _ rest a H4 (some (.int (k : Int))) (some (.int ((i : Int) + 1))) (some (.ref a)) ((i : Int) + 1 + (wdOf k : Nat)) (by rw [← hzs]; omega) (by omega) (by rw [hrl, List.length_append]; omega) ((off_same sl).trans f4) h4 ea e4 ntd (by
        rw [hdrop, show ((k : Int) :: (zs ++ t')).drop (1 + zs.length) = t' from by
          rw [Nat.add_comm, List.drop_succ_cons, List.drop_left], ep2]
        exact hL4) hdue
      refine ⟨_, rfl, .inl ⟨rfl, _, SqL.of upd_same⟩, _, rfl, a, _, rfl, .inl (SqL.of (by rw [upd_ne nat]; exact e4)), td, _, _, rfl, rfl, upd_same, (by rw [show (zv Tl).length = Tl.length from List.length_map _]; exact b1), ?_⟩
      refine ⟨_, rfl, .inl ⟨rfl, _, SqL.of upd_same⟩, _, rfl, td, a, _, _, rfl, rfl, upd_same, (by rw [upd_ne nat, upd_ne nat]; exact e4), (by
        unfold zv
        rw [List.length_append, List.length_map, List.length_map]
        exact b2), ?_⟩
      exact ⟨_, rfl, hN⟩
  · have hie : i = l.length := by omega
    rw [hie, List.drop_length] at hL
    rw [hL.nil, List.append_nil] at hA
    exact ⟨_, rfl, q H2 td (by rw [hA]; exact e2)⟩
end
end Vf

set_option Elab.async false
set_option linter.all false
set_option maxRecDepth 100000
set_option maxHeartbeats 4000000
/-! The end of a row of the specification whose program makes code objects: one table. -/
namespace Vf
open PySem PySem.Spec PyProof.Rows L2
open PySem.W (WData WellAll ReadsW Codec)
theorem end_call {P : Program} {w : World} {K : PySem.W.Frag} {mg mb : Str → Option Value} {k : Nat} {fa c t : Addr} {ps : List Str} {sp : Sp} {s : Shared} {us : List Value} {ds : List WData} {R : PySem.W.WRecords} {cl : Str → Option Addr} {due : WData}
    (KX : K.In s.heap) (hns : s.heap.Ns mainGlobals mg) (hb : s.heap.Ns builtinsNs mb) (hbb : ∀ x : Str, x ≠ "__name__" → mb x = bootBuiltins x) (hlim : s.heap.NoLimit) (hg : s.gens = #[])
    (ht : s.heap.get? t = some { cls := .none, data := .fields #[] }) (nt : K.lookup t = none) (hc : PySem.W.CodeHd s.heap c t)
    (hbm : ∃ (bm : Addr) (ob : Obj), mg "__builtins__" = some (.ref bm) ∧ bm ≠ builtinsNs ∧ s.heap.get? bm = some ob ∧ ob.cls = .type "module" ∧ ob.dict = some builtinsNs ∧ ob.data = .plain)
    (hwl : WellAll w.params s.heap us ds) (hpl : plWs ds = true) (hwt : ∀ d ∈ ds, d.weight ≤ 1048576) (hr : Room k callerA)
    (F : ∀ base : Heap, K.In base → base.Ns mainGlobals mg → LamX.TabB base mg c t → Df P w K mg base CX0 k fa ps sp) (hlen : ds.length = ps.length)
    (hsp : ∀ (H : Hp) (xs : List V), OnlyF H → H t = none → DwAll K H xs ds → sp xs (upd H t (.tbl #[])) (fun v H' => Dw K H' v due) fun _ _ _ => False) :
    codeAny (model P w) callerA (.call (.ref fa) ⟨us, []⟩) (fun r s' => ∃ u as, r = .ok (.ret u) ∧ ReadsW R cl s'.heap u due as ∧ OldK s.heap s'.heap ∧ s'.os = s.os ∧ AllBare s'.gens) s := by
  obtain ⟨A, ho, ar⟩ := area_all ds us hwl hpl hwt
  have hO : OnlyF (argH K s.heap A) := argH_only ar
  have hok0 : HOk P w (argH K s.heap A) s.heap := argH_ok ar
  have hS := dw_all KX ar ds us hwl hpl ho
  have hV := vals_toV ho
  have hK : ∀ b u, argH K s.heap A b = some u → K.lookup b = none ∧ ∃ vs n, (s.heap.get? b).map (·.data) = some (.seq vs n) := fun b u q => by
    obtain ⟨h1, vs, _, _, ⟨e2, _⟩ | ⟨e2, _⟩⟩ := argH_is ar q
    · exact ⟨h1, _, _, by rw [e2] <;> rfl⟩
    · exact ⟨h1, _, _, by rw [e2] <;> rfl⟩
  generalize argH K s.heap A = H0 at hO hok0 hS hK
  have seq0 : ∀ {b : Addr} {o : Obj}, s.heap.get? b = some o → (∀ vs n, o.data ≠ .seq vs n) → H0 b = none := fun {b o} e n => by
    cases q : H0 b with
    | none => rfl
    | some u =>
      obtain ⟨_, vs, m, z⟩ := hK b u q
      rw [e] at z
      exact absurd (Option.some.inj z) (n vs m)
  have n0 : H0 t = none := seq0 ht (fun vs n z => by cases z)
  have hok : HOk P w (upd H0 t (.tbl #[])) s.heap := hok0.laidN (fun _ _ e => e) n0 ht
  have noD : ∀ {b : Addr} {o : Obj}, s.heap.get? b = some o → (∀ vs n, o.data ≠ .seq vs n) → b ≠ t → upd H0 t (.tbl #[]) b = none := fun {b o} e n z => by
    rw [upd_ne z]
    exact seq0 e n
  have ntD : ∀ {b : Addr} {o : Obj}, s.heap.get? b = some o → o.data ≠ .fields #[] → b ≠ t := fun {b o} e n z => by
    rw [z, ht] at e
    exact n (by rw [← Option.some.inj e])
  have only : ∀ b, b ≠ t → upd H0 t (.tbl #[]) b = none ∨ ∃ o u, upd H0 t (.tbl #[]) b = some (.frz o u) := fun b z => by
    rw [upd_ne z]
    exact hO b
  have hT : upd H0 t (.tbl #[]) t = some (.tbl #[]) := upd_same
  have nK : ∀ b o, K.lookup b = some o → upd H0 t (.tbl #[]) b = none := fun b o e => by
    have z : b ≠ t := fun z => by
      rw [z, nt] at e
      cases e
    rw [upd_ne z]
    cases q : H0 b with
    | none => rfl
    | some u =>
      rw [(hK b u q).1] at e
      cases e
  have hsp1 := hsp H0 _ hO n0 hS
  generalize upd H0 t (.tbl #[]) = H at hok noD only hT nK hsp1
  have low : ∀ {b : Addr} {o : Obj}, s.heap.get? b = some o → H b = none → (hidT s.heap H).get? b = some o := fun e n => hidT_get e n
  have nsK : ∀ {b : Addr} {m : Str → Option Value}, s.heap.Ns b m → (hidT s.heap H).Ns b m := fun {b m} ⟨o, es, ep, e, d, r⟩ => ⟨o, es, ep, low e (noD e (fun vs n z => by rw [d] at z; cases z) (ntD e fun z => by rw [d] at z; cases z)), d, r⟩
  have hKb : K.In (hidT s.heap H) := fun b o e => low (KX b o e) (nK b o e)
  have hM : L2.Mod K mg (hidT s.heap H) := ⟨hKb, nsK hns, ⟨mb, nsK hb, hbb⟩, let ⟨mc, h1, h2⟩ := hlim; ⟨mc, nsK h1, h2⟩⟩
  have e0 : Env0 P w K mg (hidT s.heap H) callerA [] s H := ⟨rfl, hM, fun b o e => of_hidT e, Nat.le_of_eq (hidT_size _ _), trivial, fun b hb => absurd (show b ∈ ([] : List Addr) from hb) (by simp), hok, .of_eq hg⟩
  have TB : LamX.TabB (hidT s.heap H) mg c t := by
    refine ⟨?_, ?_, fun z => ?_⟩
    · obtain ⟨o, vs, file, tf, flags, tg, inF, text, tt, e1, r1, r2, r3, rest⟩ := hc
      refine ⟨o, vs, file, tf, flags, tg, inF, text, tt, low e1 (noD e1 (fun vs n z => by rw [r2] at z; cases z) (ntD e1 fun z => ?_)), r1, r2, r3, rest⟩
      rw [r2] at z
      cases z
      simp at r3
    · obtain ⟨bm, ob, b1, b2, b3, b4, b5, b6⟩ := hbm
      have nG : bm ≠ mainGlobals := fun q => by
        obtain ⟨o, es, ep, e, hd, _⟩ := hns
        rw [q, e] at b3
        cases b3
        rw [hd] at b6
        cases b6
      have nP : bm ≠ t := ntD b3 fun z => by
        rw [b6] at z
        cases z
      exact ⟨bm, ob, b1, b2, nG, nP, low b3 (noD b3 (fun vs n z => by rw [b6] at z; cases z) nP), b4, b5, b6⟩
    · obtain ⟨o, es, ep, e, hd, _⟩ := hns
      rw [z, ht] at e
      cases e
      cases hd
  have hl : us.length = ps.length := by
    rw [wellAll_len hwl]
    exact hlen
  obtain ⟨fd, Fo, _, Bo⟩ := (F _ hKb (nsK hns) TB).ex
  have B1 := Bo s us KX (by rw [List.append_nil]; exact hl)
  rw [List.append_nil] at B1
  refine codeAny_mono (Fo.run callerA [] s H ⟨us, []⟩ us (us.map toV) _ _ hr e0 B1 hV hsp1) fun r s' x => ?_
  cases r with
  | error e => exact (show False from x).elim
  | ok fl =>
    cases fl with
    | next => exact False.elim x
    | brk => exact False.elim x
    | cont => exact False.elim x
    | ret u =>
      obtain ⟨v, H', os, bare, un, hok', r', q⟩ := x
      have kept : ∀ b o, b ≠ t → s.heap.get? b = some o → s'.heap.get? b = some o := fun b o z e => by
        rcases only b z with q2 | ⟨ob, u3, q2⟩
        · exact un.keep b o e q2 (fun y => absurd (show b ∈ ([] : List Addr) from y) (by simp)) (by simp)
        · obtain ⟨e1, _⟩ := hok b _ q2
          obtain ⟨e2, _⟩ := hok' b _ (un.frzs b ob _ q2)
          rw [e] at e1
          rw [Option.some.inj e1]
          exact e2
      obtain ⟨more, gr⟩ := un.tbls t #[] hT
      have gr2 : s'.heap.get? t = some { cls := .none, data := .fields (#[] ++ more) } := hok' t _ gr
      have KX' : K.In s'.heap := fun b o e => kept b o (fun z => by
        rw [z, nt] at e
        cases e) (KX b o e)
      obtain ⟨as, hrd⟩ := Dw.reads (R := R) (cl := cl) hok' KX' due v u q r'
      refine ⟨u, as, rfl, hrd, ⟨fun b o e => ?_, fun b o e => ?_⟩, os, bare⟩
      · by_cases z : b = t
        · rw [z] at e ⊢
          rw [ht] at e
          cases e
          exact .inr (.inl ⟨(hc.tab ht).isCodeTable, rfl, #[], more, rfl, gr2⟩)
        · exact .inl (kept b o z e)
      · by_cases z : b = t
        · rw [z]
          exact ⟨_, gr2⟩
        · exact ⟨o, kept b o z e⟩
end Vf

set_option Elab.async false
set_option linter.all false
set_option maxRecDepth 100000
set_option maxHeartbeats 4000000
/-! The statement. -/
namespace Vf
open PySem PySem.Spec PyProof.Rows L2
open PySem.W (WData WellAll ReadsW Codec OpenSpec)
/-- every def keeps its promise -/
theorem all_kept {P : Program} {w : World} {K : PySem.W.Frag} {mg : Str → Option Value} {base : Heap} (T : Tx K mg) (TB : LamX.TabB base mg (He.cT K hvD).1 (He.cT K hvD).2) : Df P w K mg base CX0 110 (He.ga K "answers") P_answers (sp_answers K) := by
  have D_Holder_init := ok_Holder_init (P := P) (w := w) (base := base) T
  have D_Token_init := ok_Token_init (P := P) (w := w) (base := base) T
  have D_Fault_init := ok_Fault_init (P := P) (w := w) (base := base) T
  have D_as_text := ok_as_text (P := P) (w := w) (base := base) T
  have D_remark_end := ok_remark_end (P := P) (w := w) (base := base) T
  have D_behind_blanks := ok_behind_blanks (P := P) (w := w) (base := base) T D_remark_end
  have D_run_end := ok_run_end (P := P) (w := w) (base := base) T
  have D_number_at := ok_number_at (P := P) (w := w) (base := base) T D_Token_init D_Fault_init D_run_end
  have D_name_at := ok_name_at (P := P) (w := w) (base := base) T D_Token_init D_Fault_init D_run_end
  have D_token_at := ok_token_at (P := P) (w := w) (base := base) T D_Token_init D_Fault_init D_number_at D_name_at
  have D_tokens_of := ok_tokens_of (P := P) (w := w) (base := base) T D_Token_init D_Fault_init D_as_text D_behind_blanks D_token_at
  have D_Reader_init := ok_Reader_init (P := P) (w := w) (base := base) T
  have D_Reader_ahead := ok_Reader_ahead (P := P) (w := w) (base := base) T
  have D_Reader_take := ok_Reader_take (P := P) (w := w) (base := base) T D_Reader_ahead D_Fault_init
  have D_Reader_take_if := ok_Reader_take_if (P := P) (w := w) (base := base) T D_Reader_ahead
  have D_check_room := ok_check_room (P := P) (w := w) (base := base) T D_Fault_init
  have D_Reader_read_word := ok_Reader_read_word (P := P) (w := w) (base := base) T D_Reader_take D_check_room D_Fault_init
  have D_Setting_init := ok_Setting_init (P := P) (w := w) (base := base) T
  have D_Reader_read_setting := ok_Reader_read_setting (P := P) (w := w) (base := base) T D_Reader_take D_Reader_take_if D_Reader_read_word D_check_room D_Fault_init D_Setting_init
  have D_Reader_read_amount := ok_Reader_read_amount (P := P) (w := w) (base := base) T D_Reader_take D_Fault_init
  have D_Part_init := ok_Part_init (P := P) (w := w) (base := base) T
  have D_Say_init := ok_Say_init (P := P) (w := w) (base := base) T
  have D_Reader_read_say := ok_Reader_read_say (P := P) (w := w) (base := base) T D_Reader_take D_Reader_read_amount D_Say_init
  have D_Call_init := ok_Call_init (P := P) (w := w) (base := base) T
  have D_Reader_read_call := ok_Reader_read_call (P := P) (w := w) (base := base) T D_Reader_take D_Call_init
  have D_Reader_read_piece := ok_Reader_read_piece (P := P) (w := w) (base := base) T D_Reader_take D_check_room
  have D_Make_init := ok_Make_init (P := P) (w := w) (base := base) T
  have D_Reader_read_make := ok_Reader_read_make (P := P) (w := w) (base := base) T D_Reader_take D_Reader_take_if D_Reader_read_piece D_Make_init
  have D_check_known := ok_check_known (P := P) (w := w) (base := base) T D_Fault_init
  have D_When_init := ok_When_init (P := P) (w := w) (base := base) T
  have D_Reader_read_body := ok_body0 (P := P) (w := w) (base := base) T D_Reader_take D_Reader_take_if D_Reader_ahead D_Reader_read_say D_Reader_read_call D_Reader_read_make D_Fault_init D_check_known D_When_init
  have D_Reader_read_part := ok_Reader_read_part (P := P) (w := w) (base := base) T D_Reader_take D_check_room D_Fault_init D_Reader_read_amount D_Part_init D_Reader_read_body
  have D_Reader_read_entry := ok_Reader_read_entry (P := P) (w := w) (base := base) T D_Reader_take D_check_room D_Fault_init D_check_known
  have D_Reader_read_start := ok_Reader_read_start (P := P) (w := w) (base := base) T D_Reader_take D_Reader_take_if D_Reader_read_entry
  have D_Reader_check_callees := ok_Reader_check_callees (P := P) (w := w) (base := base) T D_Fault_init
  have D_Program_init := ok_Program_init (P := P) (w := w) (base := base) T
  have D_Reader_read := ok_Reader_read (P := P) (w := w) (base := base) T D_Reader_take D_Reader_ahead D_Reader_read_setting D_Reader_read_part D_Reader_read_start D_Reader_check_callees D_Program_init
  have D_read_program := ok_read_program (P := P) (w := w) (base := base) T D_tokens_of D_Reader_init D_Reader_read
  have D_choice_of := ok_choice_of (P := P) (w := w) (base := base) T
  have D_choices_of := ok_choices_of (P := P) (w := w) (base := base) T D_choice_of
  have D_Holder_load := ok_Holder_load (P := P) (w := w) (base := base) T D_read_program D_choices_of
  have D_has_mode := ok_has_mode (P := P) (w := w) (base := base) T
  have D_has_parts := ok_has_parts (P := P) (w := w) (base := base) T
  have D_made_name := ok_made_name (P := P) (w := w) (base := base) T
  have D_holds := ok_holds (P := P) (w := w) (base := base) T
  have D_tell_names := ok_names0 (P := P) (w := w) (base := base) T D_made_name D_holds
  have D_table_of := ok_table_of (P := P) (w := w) (base := base) T D_tell_names
  have D_tables_of := ok_tables_of (P := P) (w := w) (base := base) T D_choices_of D_table_of
  have D_Reach_init := ok_Reach_init (P := P) (w := w) (base := base) T D_tables_of
  have D_Holder_reach := ok_Holder_reach (P := P) (w := w) (base := base) T D_Reach_init
  have D_setting_row := ok_setting_row (P := P) (w := w) (base := base) T
  have D_bracketed := ok_brackets0 (P := P) (w := w) (base := base) T
  have D_part_row := ok_part_row (P := P) (w := w) (base := base) T D_bracketed
  have D_one_form := ok_one_form (P := P) (w := w) (base := base) T D_setting_row D_part_row
  have D_counted := ok_counted (P := P) (w := w) (base := base) T
  have D_shown := ok_shown (P := P) (w := w) (base := base) T D_one_form D_counted
  have D_chains_by := ok_chains_by (P := P) (w := w) (base := base) T
  have D_chain := ok_chain (P := P) (w := w) (base := base) T D_chains_by D_counted
  have D_Run_init := ok_Run_init (P := P) (w := w) (base := base) T
  have D_Run_call_part := ok_call_entry (P := P) (w := w) (base := base) T D_made_name D_holds
  have D_entered_by_runs := ok_entered_by_runs (P := P) (w := w) (base := base) T D_choices_of D_Run_init D_Run_call_part
  have D_Reach_search := ok_Reach_search (P := P) (w := w) (base := base) T D_entered_by_runs D_chains_by
  have D_Reach_come_to := ok_Reach_come_to (P := P) (w := w) (base := base) T D_Reach_search
  have D_Reach_lost_with := ok_Reach_lost_with (P := P) (w := w) (base := base) T D_Reach_come_to
  have D_Program_size_of := ok_Program_size_of (P := P) (w := w) (base := base) T
  have D_Reach_size_lost := ok_Reach_size_lost (P := P) (w := w) (base := base) T D_Reach_lost_with D_Program_size_of
  have D_lost := ok_lost (P := P) (w := w) (base := base) T D_Reach_size_lost D_Reach_lost_with D_counted
  have D_closest_among := ok_closest_among (P := P) (w := w) (base := base) T
  have D_closest_of_all := ok_closest_of_all (P := P) (w := w) (base := base) T D_Reach_come_to D_Reach_lost_with D_closest_among
  have D_tree := ok_tree (P := P) (w := w) (base := base) T D_closest_of_all
  have D_shares := ok_shares (P := P) (w := w) (base := base) T D_Reach_size_lost D_Reach_come_to D_Program_size_of
  have D_around := ok_around (P := P) (w := w) (base := base) T D_chains_by D_counted
  have D_both := ok_both (P := P) (w := w) (base := base) T D_Reach_size_lost D_Reach_lost_with D_counted
  have D_heavy := ok_heavy (P := P) (w := w) (base := base) T TB D_Reach_size_lost D_Reach_come_to
  have D_Holder_tell := ok_Holder_tell (P := P) (w := w) (base := base) T D_Holder_reach D_shown D_chain D_lost D_tree D_shares D_around D_both D_heavy
  have D_Holder_answer := ok_Holder_answer (P := P) (w := w) (base := base) T D_has_mode D_has_parts D_Holder_tell
  have D_width_of := ok_width_of (P := P) (w := w) (base := base) T
  have D_answers := ok_answers (P := P) (w := w) (base := base) T D_Holder_init D_Holder_load D_Holder_answer D_width_of
  exact D_answers
/-- the walk over what is handed in -/
theorem the_call {d : DefRec} (hd0 : d.name = "answers") : PySem.W.WalkOS (PySem.W.view R.prog [109]) loose (PySem.W.XL (PySem.W.view R.prog [109]) []) hk.says R d [] (fun f vs => PySem.call f vs) := by
  intro w s₀ s₁ mg mb G Y fa o pm cd doc dV kV ho hd hcd hD hmg hg args vals as hpre hlay hrd hwl hlo
  obtain ⟨a, e1, e2⟩ := PySem.W.os_pre_some hpre
  obtain ⟨e3, hwi⟩ := Codec.encAll_of_decAll R.args args a e1
  subst e3
  obtain ⟨K, KX, S⟩ := Y
  have T : Tx K mg := ⟨S.t.d, S.more, _, KX, G.T.g⟩
  have hfa : fa = He.ga K "answers" := by
    rw [hd0] at hmg
    have z := (g_answers T).symm.trans hmg
    cases z
    rfl
  subst hfa
  have hm : hvD ∈ tf := List.mem_singleton.mpr rfl
  refine PySem.W.enter_call (codeAny_mono (end_call (k := 110) (ps := P_answers) (sp := sp_answers K) (R := []) (cl := classAt s₀.heap) (due := R.ret.enc (Codec.app R.args R.f a)) KX G.T.g G.T.b G.T.builtins G.T.nolimit hg (S.empty hvD hm) (S.out hvD hm) (PySem.W.codeHd_of_K KX (S.hd hvD hm)) G.T.bmain hwl (pl_encAll _ _) (layable_weight hlay) ⟨rfl, by decide, by decide⟩
    (fun base _ _ TB => all_kept T TB) rfl (fun H xs hO ht hS => ?_)) fun r' s' hq => ?_)
  · cases hS with
    | cons h1 h2 =>
      cases h2
      cases h1 with
      | lst hs ha =>
        have e := L2.ints_dw a.1 _ ha
        subst e
        refine ⟨_, a.1, rfl, sq_keep hs fun u e _ => ?_, .nil upd_same, e2, fun H' p hp => .lst (SqL.of hp) (dw_ints _)⟩
        rw [upd_ne (ne_of_none e ht)]
        exact e
  · obtain ⟨u, as', rfl, h1, h2, h3, h4⟩ := hq
    exact ⟨.inl ⟨u, _, as', rfl, fun _ => rfl, h1, (OpenSpec.post_iff row_said hwi _ _).mpr rfl, fun z => Bool.noConfusion (show false = true from z)⟩, h2, h3, h4⟩
end Vf
open PySem PySem.W PySem.Calls PyProof.Rows
theorem PySem.Challenge.cw_whykept_s01_answers_holds : PySem.Challenge.rw_whykept_s01_answers.Holds := by
  w_on
  refine HandSHeadRun.head_spec (r := PySem.Challenge.rw_whykept_s01_answers) (q := PySem.W.view PySem.Challenge.rw_whykept_s01_answers.prog [109]) (H := Vf.hk) (ob := Vf.ob) (M := 6000) (loose := Vf.loose) (kwd := []) Vf.ob_eq (by kernel_rfl) (fun s => by kernel_rfl) Vf.run (by rfl) (by rfl) (by rfl) os_shapes Vf.row_said Vf.row_ok ⟨rfl, rfl, rfl, rfl, rfl, by decide +kernel⟩ ⟨[.list [.int 4]], by decide +kernel, by decide +kernel⟩ (Vf.the_call rfl)

