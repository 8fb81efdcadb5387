import PyProof.Rows.All
import Wide.All
import OpenK.AllK
import Wide.FinOn
import KE.KIsAll
import KE.KTryMore
import HandS.Base
import HandS.Call
import HandS.List
import HandS.Exc
import HandS.ExcInit
import HandS.ForMost
import HandS.ExcField
import HandS.ExcIs
import HandS.IsInst
import HandS.Defaults
import HandS.MakeKw
import HandS.MakeKwOnly
import HandS.ExcValue
import KE.DataEq
import KE.KEqDict
import PyProof.InstEq
import HandS.Evl
import HandS.Style
import HandS.WordsDict
import HandS.Steps
import PyProof.ListStr
import HandS.Wide
import HandS.Codes
import HandS.Text
import HandS.StrMore
import PyProof.Rows.StrCase
import HandS.More
import HandS.WordsExc
import HandS.Walk
import HandS.EndTab
import HandS.TupSets
import HandS.SetKeys
import HandS.Deep
import HandS.SortKw
import KE.SortKeyHeap
import PySem.Challenge.RW_borderwords_k01_checks_of_any_value
set_option Elab.async false
set_option linter.all false
set_option maxRecDepth 100000
set_option maxHeartbeats 8000000
/-! Own exception classes over ValueError: instances held as values (made with or without keywords), their attributes, isinstance of them. -/
namespace BW
open PySem PySem.W PySem.Calls PySem.HandSPX

/-- a class object of an own exception class over ValueError, with the tail bm of its mro -/
def EClsAt (h : Heap) (C : Addr) (bm : List Value) : Prop :=
  ∃ nm q N bs hdct sn sub ab col dd k0 k1 k2 k3 k5, h.get? C = some (excClassObj nm q C N bs bm hdct sn sub ab col dd k0 k1 k2 k3 k5 "ValueError.__new__")

section
variable {prog : Program} {w : World} {A : Around} {R : Result → Shared → Prop} {hp : Heap} {gs : Array GenState} {dr : Drawn} {tk : Nat} {os : OsState} {C fI : Addr} {bm : List Value}
  {kw : List (Str × Value)} {rest : List Value}
theorem ex_new (hC : EClsAt hp C bm) (hm : refsVE bm = true) (hl : rest.length ≤ sizeLine)
    (hq : R (.ok (.ret (.ref (hp.objs.size + 1)))) ⟨(hp.push (kdv_tup rest)).push (excO C hp.objs.size), gs, dr, tk, os⟩) :
    codeAny (model prog w) A (.builtin "ValueError.__new__" ⟨.ref C :: rest, kw⟩) R ⟨hp, gs, dr, tk, os⟩ := by
  obtain ⟨nm, q, N, bs, hdct, sn, sub, ab, col, dd, k0, k1, k2, k3, k5, kC⟩ := hC
  have FB := PySem.F.excBase_ValueError
  have hends := FB.ends
  have in1 : (Value.ref C :: bm).contains (.type "ValueError") = true := by
    rw [List.contains_cons, refsVE_contains "ValueError" bm hm, FB.hasB, Bool.or_true]
  have in2 : (Value.ref C :: bm).contains (.type "AttributeError") = false := by
    rw [List.contains_cons, refsVE_contains "AttributeError" bm hm, FB.noAttr]
    rfl
  have in3 : (Value.ref C :: bm).contains (.type "NameError") = false := by
    rw [List.contains_cons, refsVE_contains "NameError" bm hm, FB.noName]
    rfl
  refine codeAny_builtinAt FB.entry ?_
  unfold Builtin.«BaseException.__new__»
  refine wpAt_bind ?_
  show wpAt _ _ _ (stack >>= _) _ _ _
  refine wpAt_bind (wpAt_stack fun p below => wpAt_of_wpAny ?_)
  wp_walk
  refine wpAt_of_wpAny ?_
  rw [FB.owner]
  repeat (first
    | with_reducible refine wpAny_madeHere_exc FB.canon kC ?_
    | with_reducible refine wpAny_loadPart_at kC ?_
    | (with_reducible refine wpAny_isSubtype_exc kC ?_
       first | rw [in1] | rw [in2] | rw [in3])
    | wp_step)
  show R _ _
  rw [Heap.size_push]
  exact hq
theorem ex_check {M : Model} {E : Value → Shared → Prop} {Q : Unit → Shared → Prop} (hC : EClsAt hp C bm) (hm : refsVE bm = true) (hq : Q () ⟨hp, gs, dr, tk, os⟩) :
    wpAny M A (checkBuiltinCall "ValueError.__new__" ⟨.ref C :: rest, kw⟩) Q E ⟨hp, gs, dr, tk, os⟩ := by
  obtain ⟨nm, q, N, bs, hdct, sn, sub, ab, col, dd, k0, k1, k2, k3, k5, kC⟩ := hC
  have FB := PySem.F.excBase_ValueError
  have in1 : (Value.ref C :: bm).contains (.type "ValueError") = true := by
    rw [List.contains_cons, refsVE_contains "ValueError" bm hm, FB.hasB, Bool.or_true]
  have hstar := FB.noStar
  simp only [checkBuiltinCall, FB.newKind, FB.newSplit, FB.newRow]
  repeat (first
    | refine wpAny_loadPart_at kC ?_
    | (refine wpAny_isSubtype_exc kC ?_
       rw [in1])
    | refine wpAny_staticBase_exc kC ?_
    | refine wpAny_madeBy_exc kC ?_
    | simp only [bne_self_eq_false, Bool.false_eq_true, if_false]
    | wp_step)
  exact hq
theorem ex_typecall {E : Value → Shared → Prop} {Q : Fin → Shared → Prop} (hC : EClsAt hp C bm) (hm : refsVE bm = true) (hl : rest.length ≤ sizeLine)
    (hi : Looks (model prog w) hp (typeLookup (.ref C) "__init__") (some (.ref fI))) (hb : ∀ self, Looks (model prog w) hp (bindSpecial (.ref fI) self) (.ref fI, [self]))
    (hq : codeAny (model prog w) A (.call (.ref fI) ⟨.ref (hp.objs.size + 1) :: rest, kw⟩)
      (fun r s' => match r with
        | .ok (.ret v) => v = .none ∧ Q (.done (.ret (.ref (hp.objs.size + 1)))) s'
        | .ok _ => False
        | .error e => E e s') ⟨(hp.push (kdv_tup rest)).push (excO C hp.objs.size), gs, dr, tk, os⟩) :
    wpAny (model prog w) A (Builtin.«type.__call__» ⟨.ref C :: rest, kw⟩) Q E ⟨hp, gs, dr, tk, os⟩ := by
  have HC := id hC
  obtain ⟨nm, q, N, bs, hdct, sn, sub, ab, col, dd, k0, k1, k2, k3, k5, kC⟩ := hC
  have FB := PySem.F.excBase_ValueError
  repeat (first
    | with_reducible refine wpAny_loadPart_at kC ?_
    | with_reducible refine wpAny_madeBy_exc kC ?_
    | wp_step)
  refine codeAny_call_builtin_code (Code.quiet_builtin _ FB.quiet) (ex_check HC hm ?_)
  refine ex_new HC hm hl ?_
  show wpAny _ _ _ _ _ _
  have kk : ∀ b o, hp.get? b = some o → ((hp.push (kdv_tup rest)).push (excO C hp.objs.size)).get? b = some o := fun b o e =>
    Heap.get?_push_of_some _ (Heap.get?_push_of_some _ e)
  have kC2 := kk _ _ kC
  have eget : ((hp.push (kdv_tup rest)).push (excO C hp.objs.size)).get? (hp.objs.size + 1) = some (excO C hp.objs.size) := by heap_get
  have inC : (Value.ref C :: bm).contains (.ref C) = true := by simp
  have i1 := hi.keeps kk
  have b1 := (hb (.ref (hp.objs.size + 1))).keeps kk
  unfold isInstance
  repeat (first
    | with_reducible refine wpAny_loadPart_at eget ?_
    | (with_reducible refine wpAny_isSubtype_exc kC2 ?_
       rw [inC])
    | wp_step)
  show wpAny _ _ (typeLookup (.ref C) _) _ _ _
  refine i1.at ?_
  refine wpAny_holding (wpAny_bind (b1.at ?_))
  refine wpAny_bind (wpAny_call (codeAny_mono hq fun r s' z => ?_))
  rcases r with e | (v | _ | _ | _) <;> (first | exact z | exact z.elim | skip)
  obtain ⟨rfl, z⟩ := z
  first
    | exact wpAny_pure (wpAny_pure z)
    | (wp_walk
       exact z)
theorem ex_tcheck {M : Model} {E : Value → Shared → Prop} {Q : Unit → Shared → Prop} (hC : EClsAt hp C bm) (hq : Q () ⟨hp, gs, dr, tk, os⟩) :
    wpAny M A (checkBuiltinCall "type.__call__" ⟨.ref C :: rest, kw⟩) Q E ⟨hp, gs, dr, tk, os⟩ := by
  obtain ⟨nm, q, N, bs, hdct, sn, sub, ab, col, dd, k0, k1, k2, k3, k5, kC⟩ := hC
  have f3 := tc_sub
  have tyC : (⟨hp, gs, dr, tk, os⟩ : Shared).TypeIs (.ref C) "type" := ⟨_, kC, rfl⟩
  simp only [checkBuiltinCall, tc_kind, tc_split]
  repeat (any_goals (first
    | assumption
    | with_reducible refine wpAny_loadPart_at kC ?_
    | with_reducible refine wpAny_onRaise ?_
    | with_reducible refine wpAny_map ?_
    | wp_step))
theorem ex_call (hC : EClsAt hp C bm) (hm : refsVE bm = true) (hl : rest.length ≤ sizeLine)
    (hi : Looks (model prog w) hp (typeLookup (.ref C) "__init__") (some (.ref fI))) (hb : ∀ self, Looks (model prog w) hp (bindSpecial (.ref fI) self) (.ref fI, [self]))
    (hq : codeAny (model prog w) (A.under (.builtin "type.__call__" ⟨.ref C :: rest, kw⟩)) (.call (.ref fI) ⟨.ref (hp.objs.size + 1) :: rest, kw⟩) (InitBack (hp.objs.size + 1) R)
      ⟨(hp.push (kdv_tup rest)).push (excO C hp.objs.size), gs, dr, tk, os⟩) : codeAny (model prog w) A (.call (.ref C) ⟨rest, kw⟩) R ⟨hp, gs, dr, tk, os⟩ := by
  have HC := id hC
  obtain ⟨nm, q, N, bs, hdct, sn, sub, ab, col, dd, k0, k1, k2, k3, k5, kC⟩ := hC
  have f1 := tc_lookup
  have f2 := tc_bind (.ref C)
  have f3 := tc_sub
  have tyC : (⟨hp, gs, dr, tk, os⟩ : Shared).TypeIs (.ref C) "type" := ⟨_, kC, rfl⟩
  refine codeAny_of_tree ?_
  show wpAny _ _ (callAny (.ref C) _) _ _ _
  repeat (any_goals (first
    | assumption
    | with_reducible refine wpAny_loadPart_at kC ?_
    | wp_step))
  refine ⟨rfl, ?_⟩
  refine codeAny_call_builtin_at (Code.quiet_builtin _ (by decide +kernel)) entry_typeCall (ex_tcheck HC (ex_typecall HC hm hl hi hb ?_))
  refine codeAny_mono hq fun r s' z => ?_
  rcases r with e | (v | _ | _ | _) <;> exact z
end
end BW
namespace BW
open PySem PySem.Spec PyProof.Rows L2

/-! ### an instance made: C(..), C(k = ..) -/
/-- what is asked where an exception is made, a value: sp of the new one and of what is written -/
def tMkV (C : Addr) (n m : Nat) (sp : Sp) (gV : List V → List V → List V) (t u : TA) : TE := fun σ H Q => t σ H fun vs H1 => u σ H1 fun zs H2 =>
  vs.length = n ∧ zs.length = m ∧ ∀ a, H2 a = none → sp (gV (.ref a :: vs) zs) (upd H2 a (exo a C none)) (fun v H3 => v = .non ∧ Q (.ref a) H3) E0
section
variable {X : Cx} {CX : CXT} {k n : Nat} {fI C : Addr} {fd : FuncData} {ps ks : List Str} {sp : Sp} {x : Str} {p pos : Pos} {e : Expr} {es : List Expr} {kws : List Keyword} {t u : TA} {g : List Value → List Value → List Value} {gV : List V → List V → List V}
theorem run_mkV {pins : List (Addr × Obj)} {σ : L2.St} {H : Hp} {s : Shared} {Q : VK} {us ws : List Value} {vs zs : List V} (T : OexC X.K C) (iC : PySem.W.findIn X.K (.ref C) "__init__" = some (some (.ref fI)))
    (tI : PySem.W.typeIn X.K (.ref fI) = some (.type "function")) (F1 : FnOk X.prog X.w X.K X.mg X.base CX k fI fd ps sp) (hr : Room (k + 1) X.A) (hb : KBn X.K fd ps (n + 1) ks g gV) (hx : Passes CX X E0) (hn : n ≤ 1000)
    (I : Inv X pins σ H s) (r : Vals vs us) (rz : Vals zs ws) (l1 : vs.length = n) (l2 : zs.length = ks.length)
    (h : ∀ a, H a = none → sp (gV (.ref a :: vs) zs) (upd H a (exo a C none)) (fun v H3 => v = .non ∧ Q (.ref a) H3) E0) : wpAny (model X.prog X.w) X.A (call (.ref C) us (ks.zip ws)) (EP X pins σ Q) X.xe s := by
  obtain ⟨nm, q, N, bs, bm, sn, sub, ab, col, dd, k0, k1, k2, k3, k5, hC, hbm⟩ := T.cls
  have kC := I.kIn _ _ hC
  have I0 := I
  obtain ⟨hp, gs, dr, tk, os⟩ := s
  have hsz : hp.objs.size ≤ hp.objs.size + 1 := Nat.le_succ _
  have hq := h (hp.objs.size + 1) (I.hok.fresh hsz)
  have kk : ∀ b o, hp.get? b = some o → ((hp.push (PySem.W.kdv_tup us)).push (PySem.HandSPX.excO C hp.objs.size)).get? b = some o := fun b o e => Heap.get?_push_of_some _ (Heap.get?_push_of_some _ e)
  have eget : ((hp.push (PySem.W.kdv_tup us)).push (PySem.HandSPX.excO C hp.objs.size)).get? (hp.objs.size + 1) = some (PySem.HandSPX.excO C hp.objs.size) := by heap_get
  have I2 : Inv X pins σ (upd H (hp.objs.size + 1) (exo (hp.objs.size + 1) C none)) ⟨(hp.push (PySem.W.kdv_tup us)).push (PySem.HandSPX.excO C hp.objs.size), gs, dr, tk, os⟩ :=
    I.laid (t' := tk) kk hsz (exo_ok eget)
  have r1 : Vals (V.ref (hp.objs.size + 1) :: vs) (Value.ref (hp.objs.size + 1) :: us) := .cons rfl r
  have r2 := hb.rel r1 rz
  have e1 : (Value.ref (hp.objs.size + 1) :: us).length = n + 1 := by
    rw [List.length_cons, ← r.length, l1]
  have e2 : ws.length = ks.length := rz.length.symm.trans l2
  have hus : us.length ≤ sizeLine := by
    rw [← Paired.length r, sizeLine_eq]
    omega
  refine wpAny_call (ex_call ⟨nm, q, N, bs, true, sn, sub, ab, col, dd, k0, k1, k2, k3, k5, kC⟩ hbm hus (PySem.W.looks_findIn I0.kIn iC) (fun self => PySem.W.bind_fn I0.kIn self tI)
    (codeAny_mono (F1.run _ X.stack _ _ ⟨Value.ref (hp.objs.size + 1) :: us, ks.zip ws⟩ (g (Value.ref (hp.objs.size + 1) :: us) ws) _ _ E0 (hr.make C us (ks.zip ws))
      (I2.env0.make C us (ks.zip ws)) (hb.to _ (Value.ref (hp.objs.size + 1) :: us) ws I2.kIn e1 e2) r2 hq) fun r s' hq' => ?_))
  cases r with
  | error er => exact hx pins σ _ _ er s' I2 hq'
  | ok fl =>
    cases fl with
    | ret u =>
      obtain ⟨v, H', I3, rv, ev, q3⟩ := I2.after hq'
      subst ev
      exact ⟨rv, ⟨V.ref (hp.objs.size + 1), H', I3, rfl, q3⟩⟩
    | next => exact False.elim hq'
    | brk => exact False.elim hq'
    | cont => exact False.elim hq'
/-- C(e, ..) -/
theorem pe_mkV (T : OexC X.K C) (iC : PySem.W.findIn X.K (.ref C) "__init__" = some (some (.ref fI))) (tI : PySem.W.typeIn X.K (.ref fI) = some (.type "function")) (F1 : FnOk X.prog X.w X.K X.mg X.base CX k fI fd ps sp)
    (hr : Room (k + 1) X.A) (hb : KBn X.K fd ps (n + 1) [] g gV) (hx : Passes CX X E0) (hn : n ≤ 1000) (hg : Gl X x) (hm : X.mg x = some (.ref C)) (ha : PA X (e :: es) t)
    (hdb : (x == ("__debug__" : Str)) = false := by decide) (he : starEach (e :: es) X.env = (false, eval e X.env) :: starEach es X.env := by rfl) (hpl : (backTo pos (starEach es X.env)).any (·.1) = false := by rfl) :
    PE X (.Call (.Name x p) (e :: es) [] pos) (tMkV C n 0 sp gV t tNil) := by
  refine ⟨fun pins s σ H Q I h => ?_⟩
  refine wpAny_Call_Name_kw (ld_glob I hg hm ?_ hdb)
  refine PySem.W.callWith_K (h₀ := X.base) I.ok.mod.kin T.kC (thn (ha.run pos pins s σ H _ I h) fun us s1 hh => ?_) he hpl
  obtain ⟨vs, H1, I1, r1, l1, l2, q1⟩ := hh
  exact ⟨I1.kIn, run_mkV (ks := []) (ws := []) (zs := []) T iC tI F1 hr hb hx hn I1 r1 .nil l1 rfl q1⟩
/-- C(k = e, ..) -/
theorem pe_mkVk (T : OexC X.K C) (iC : PySem.W.findIn X.K (.ref C) "__init__" = some (some (.ref fI))) (tI : PySem.W.typeIn X.K (.ref fI) = some (.type "function")) (F1 : FnOk X.prog X.w X.K X.mg X.base CX k fI fd ps sp)
    (hr : Room (k + 1) X.A) (hb : KBn X.K fd ps 1 ks g gV) (hx : Passes CX X E0) (hg : Gl X x) (hm : X.mg x = some (.ref C)) (hkw : PK X kws u)
    (hall : (backToKw pos (keywordEach kws X.env)).all (·.1.isSome) = true := by rfl) (hks : (backToKw pos (keywordEach kws X.env)).filterMap (·.1) = ks := by rfl) (hdb : (x == ("__debug__" : Str)) = false := by decide)
    (hpl : ((backTo pos (starEach [] X.env)).any (·.1) || (backToKw pos (keywordEach kws X.env)).any (·.1.isNone)) = false := by rfl) :
    PE X (.Call (.Name x p) [] kws pos) (tMkV C 0 ks.length sp gV tNil u) := by
  refine ⟨fun pins s σ H Q I h => ?_⟩
  refine wpAny_Call_Name_kw (ld_glob I hg hm ?_ hdb)
  refine PySem.W.callWith_KW0 (h₀ := X.base) I.ok.mod.kin T.kC hall ?_ hpl
  refine thn (hkw.run pos pins s σ H _ I h) fun ws s2 hh => ?_
  obtain ⟨zs, H2, I2, rz, l1, l2, q2⟩ := hh
  refine ⟨I2.kIn, ?_⟩
  rw [hks]
  exact run_mkV (us := []) (vs := []) T iC tI F1 hr hb hx (Nat.zero_le _) I2 .nil rz rfl l2 q2
end

/-! ### an attribute of an instance -/
def tXA (K : PySem.W.Frag) (f : Str) (te : TE) : TE := fun σ H Q => te σ H fun x H1 => ∃ (a C d : Addr) (fs : List (Str × V)) (v : V),
  x = .ref a ∧ H1 a = some (exo a C (some d)) ∧ H1 d = some (exd d fs) ∧ XfC K C ∧ PySem.W.findIn K (.ref C) f = some none ∧ fs.lookup f = some v ∧ Q v H1
theorem pe_xa {X : Cx} {e : Expr} {te : TE} {pos : Pos} {f : Str} (he : PE X e te) (hb : attributeBase e f X.env (eval e X.env) = eval e X.env := by rfl) : PE X (.Attribute e f pos) (tXA X.K f te) := by
  refine ⟨fun pins s σ H Q I h => ?_⟩
  refine attr_of hb (thn (he.run pins s σ H _ I h) fun u s1 hh => ?_)
  obtain ⟨x, H1, I1, rx, a, C, d, fs, v, ex, ea, ed, T, hno, hl, q⟩ := hh
  subst ex
  obtain rfl : u = Value.ref a := rx
  obtain ⟨t1, ho⟩ := exo_at I1.hok ea
  obtain ⟨mA, hns, rel⟩ := exd_at I1.hok ed
  obtain ⟨od, hod, hlk⟩ := lookIn_ns hns
  obtain ⟨u, hu, ru⟩ := RelO.some_of (v := v) (o := mA f) (by rw [← hl]; exact rel f)
  exact HandSPX.exc_get I1.kIn (od := some od) ⟨ho, rfl, rfl, hod⟩ T.ga T.gg T.exC (PySem.W.findObj_own T.hdC hno rfl (by rw [hlk, hu])) (handed_of ru) ⟨v, H1, I1.tok _, ru, q⟩

/-! ### isinstance of an instance -/
open PySem.W PySem.Calls in
theorem get_class {prog : Program} {w : World} {A : Around} {E : Value → Shared → Prop} {K : PySem.W.Frag} {x D : Addr} {ox od : Obj} {s : Shared} {Q : Option Value → Shared → Prop} (T : ExcC K D)
    (X : K.In s.heap) (I : PySem.W.InstAt s.heap x ox D (some od)) (h : Q (some (.ref D)) { s with toks := s.toks + 1 }) : wpAny (model prog w) A (getAttr? (.ref x) "__class__") Q E s := by
  have hf : findObj K D (some od) "__class__" = some (.bind (.builtin "getset_descriptor.__get__") (.builtin "object.__class__")) := findObj_data (by
    obtain ⟨cd, hc, _⟩ := any_some T.hd
    rw [hc]
    rfl) T.ha T.hn T.ht
  obtain ⟨hp, gs, dr, tk, os⟩ := s
  have a0 := I.type (M := model prog w)
  have a1 := looks_findIn (M := model prog w) X T.hg
  have a2 := looks_findIn (M := model prog w) X T.hk
  have a3 := looks_find (M := model prog w) X I hf
  have isB : Looks (model prog w) hp (isInstance (.ref x) (.type "BaseException")) true := a0.andThen (looks_subIn X T.hs)
  have ne2 : (Value.builtin "BaseException.__getattribute__" == Value.builtin "object.__getattribute__") = false := by decide +kernel
  have ne0 : (false && onTheHeap (Value.builtin "BaseException.__getattribute__")) = false := rfl
  have ne1 : (onTheHeap (Value.ref D) && Value.builtin "BaseException.__getattribute__" == Value.builtin "object.__getattribute__") = false := by
    rw [ne2]
    rfl
  unfold getAttr? getAttrBy? getAttrBy
  refine wpAny_bind (wpAny_mkText (wpAny_bind (wpAny_attempt (wpAny_holding (wpAny_bind (a0.at (wpAny_bind (a1.at ?_))))))))
  show wpAny _ _ (ite (_ = true) _ _) _ _ _
  rw [ne1, if_neg Bool.false_ne_true]
  unfold getAttrByItsOwn hookBefore
  refine wpAny_bind ?_
  rw [if_pos (show onTheHeap (Value.ref D) = true from rfl)]
  refine a2.at ?_
  refine wpAny_bind (wpAny_attempt (wpAny_holding ?_))
  unfold callGetattribute
  rw [ne0, if_neg Bool.false_ne_true]
  unfold boundAndCalled
  rw [PySem.F.excAttr_ValueError.ga.bind (.ref x)]
  refine wpAny_bind (wpAny_pure ?_)
  show wpAny _ _ (call (.builtin "BaseException.__getattribute__") [.ref x, .str "__class__" tk]) _ _ _
  refine wpAny_call (codeAny_call_builtin PySem.F.excAttr_ValueError.ga.plain PySem.F.entry_bexc_ga ?_)
  refine @check_slot (model prog w) _ _ ⟨hp, gs, dr, tk + 1, os⟩ "BaseException.__getattribute__" "BaseException" "__getattribute__" (.ref x) [.str "__class__" tk] [] _ (by decide +kernel) (by decide +kernel)
    isB (PySem.F.args_bexc_ga (.ref x) (.str "__class__" tk)) ?_
  unfold Builtin.«object.__getattribute__»
  refine wpAny_bind (wpAny_of_eq (a := ((Value.ref x : Value), [Value.str "__class__" tk])) (by first | rfl | (simp only [slotArgs]; rfl)) ?_)
  refine wpAny_bind (wpAny_pure (wpAny_bind (a0.at (wpAny_bind (a3.at ?_)))))
  show wpAny _ _ (holding [Value.builtin "object.__class__"] (call (.builtin "getset_descriptor.__get__") [.builtin "object.__class__", .ref x, .ref D]) >>= ret) _ _ _
  refine wpAny_bind (wpAny_holding (wpAny_call (class_get (s := ⟨hp, gs, dr, tk + 1, os⟩) (ox := ox) (od := some od) X I T.hm ?_)))
  refine wpAny_pure ?_
  show wpAny _ _ (handedOut (.ref D)) _ _ _
  rw [handedOut_of (v := .ref D) rfl]
  first
    | exact wpAny_pure (wpAny_pure h)
    | exact wpAny_pure h
    | exact wpAny_pure (wpAny_bind (wpAny_pure (wpAny_pure h)))
theorem cls_at {K : PySem.W.Frag} {D : Addr} (T : ExcC K D) : ∃ (_ : Unit) (o : Value × Option Addr × ClassData × Array (Option Value)), K.lookup D = some ⟨o.1, o.2.1, .cls o.2.2.1, o.2.2.2⟩ := by
  obtain ⟨cd, hc, _⟩ := PySem.W.any_some T.hd
  unfold PySem.W.clsIn at hc
  split at hc
  · rename_i c' d' cd' sl' ho
    exact ⟨(), (c', d', cd', sl'), ho⟩
  · cases hc
theorem kitx_inst {K : PySem.W.Frag} {x D : Addr} {ox od : Obj} (T : ExcC K D) : PySem.W.KitX K (.ref x) (.ref D) (fun h => PySem.W.InstAt h x ox D (some od)) where
  ty := fun _ _ _ I => I.type
  it := fun _ _ X _ => by
    obtain ⟨_, o, hl⟩ := cls_at T
    intro A' Q' E' s' k q
    unfold isType loadHead
    exact wpAny_bind (wpAny_loadPart (k _ _ (X _ _ hl)) (wpAny_pure q))
  ne := fun h tp dd its n sl X htp => by
    obtain ⟨_, ⟨c1, c2, c3, c4⟩, hl⟩ := cls_at T
    refine Bool.eq_false_iff.mpr fun q => ?_
    obtain rfl : D = tp := Value.ref.inj (beq_iff_eq.mp q)
    cases (X _ _ hl).symm.trans htp
  ca := fun X I k => get_class T X I k
/-- isinstance(e, c), e an instance with its dict, c one class -/
def rIsX (K : PySem.W.Frag) : List V → Hp → VK → Prop := fun xs H Q => ∃ (a C d : Addr) (fs : List (Str × V)) (c : V) (cv : Value) (b : Bool),
  xs = [.ref a, c] ∧ H a = some (exo a C (some d)) ∧ H d = some (exd d fs) ∧ ExcC K C ∧ ClsV c cv ∧ PySem.W.kitOne K (.ref C) cv = some b ∧ Q (.bl b) H
/-- c a tuple of classes that was just laid -/
def rIsXT (K : PySem.W.Frag) : List V → Hp → VK → Prop := fun xs H Q => ∃ (a C d : Addr) (fs : List (Str × V)) (tp : Addr) (cs : List V) (us : List Value) (b : Bool),
  xs = [.ref a, .ref tp] ∧ H a = some (exo a C (some d)) ∧ H d = some (exd d fs) ∧ ExcC K C ∧ H tp = some (.tup cs) ∧ Paired ClsV cs us ∧ PySem.W.kitAny K (.ref C) us = some b ∧ Q (.bl b) H
section
variable {X : Cx}
theorem inst_at {pins : List (Addr × Obj)} {σ : L2.St} {H : Hp} {s : Shared} {a C d : Addr} {fs : List (Str × V)} (I : Inv X pins σ H s) (ea : H a = some (exo a C (some d))) (ed : H d = some (exd d fs)) :
    ∃ ox od : Obj, PySem.W.InstAt s.heap a ox C (some od) := by
  obtain ⟨t1, ho⟩ := exo_at I.hok ea
  obtain ⟨mA, hns, rel⟩ := exd_at I.hok ed
  obtain ⟨od, hod, _⟩ := lookIn_ns hns
  exact ⟨_, od, ho, rfl, rfl, hod⟩
theorem call_isX : CallR X (.builtin "isinstance") (rIsX X.K) := by
  intro pins s σ H xs us Q I r h
  obtain ⟨a, C, d, fs, c, cv, b, rfl, ea, ed, T, k, e, q⟩ := h
  obtain ⟨u1, u2, rfl, r1, r2⟩ := vals2 r
  obtain rfl := k.eq r2
  cases (show u1 = Value.ref a from r1)
  obtain ⟨ox, od, J⟩ := inst_at I ea ed
  exact PySem.W.kia_one (kitx_inst T) I.kIn J e (fun z => nomatch z) fun tk => ⟨.bl b, H, I.tok tk, rfl, q⟩
theorem call_isXT : CallR X (.builtin "isinstance") (rIsXT X.K) := by
  intro pins s σ H xs us Q I r h
  obtain ⟨a, C, d, fs, tp, cs, ws, b, rfl, ea, ed, T, hT, k, e, q⟩ := h
  obtain ⟨u1, u2, rfl, r1, r2⟩ := vals2 r
  cases (show u1 = Value.ref a from r1)
  cases (show u2 = Value.ref tp from r2)
  obtain ⟨ox, od, J⟩ := inst_at I ea ed
  have hx : ObjOk X.prog X.w H s.heap tp (.tup cs) := I.hok tp _ hT
  obtain ⟨_, its, rv, ot, g1, g2, n, g3⟩ := hx
  obtain rfl := ClsV.all k rv
  obtain ⟨oc, dd, dt, sl⟩ := ot
  dsimp only at g2 g3
  subst g2
  subst g3
  exact PySem.W.kia_tup (kitx_inst T) I.kIn J g1 e (fun z => nomatch z) fun tk => ⟨.bl b, H, I.tok tk, rfl, q⟩
end
end BW
/-! x != x is False: of scalars, lists, tuples, dicts, instances of own errors. -/
namespace BW
open PySem

theorem eq_self_at (A : Around) (s : Shared) (v : Value) : SeqAt.EqAt A s v v true := fun prog w E Q hq => by
  unfold eqBool
  refine wpAny_holding ?_
  rw [if_pos (beq_self_eq_true v)]
  first
    | exact wpAny_bind (wpAny_rule (wpAny_pure hq))
    | exact wpAny_bind (wpAny_pure (wpAny_pure hq))
    | exact wpAny_rule (wpAny_pure hq)

/-- what the class of an own error must have for == and != of its instances to be by identity -/
structure ExcNe (K : PySem.W.Frag) (C : Addr) : Prop where
  eq : PySem.W.findIn K (.ref C) "__eq__" = some (some (.builtin "object.__eq__"))
  ne : PySem.W.findIn K (.ref C) "__ne__" = some (some (.builtin "object.__ne__"))
  ob : PySem.W.mroIn K C (.type "object") = some true

section
open PySem.W PySem.Calls
variable {prog : Program} {w : World} {A : Around} {E : Value → Shared → Prop} {K : Frag} {x C : Addr} {ox : Obj} {od : Option Obj} {s : Shared}
theorem special_at {name : Str} {id : String} {args : List Value} {Q : Option Value → Shared → Prop} (X : K.In s.heap) (I : InstAt s.heap x ox C od) (hf : findIn K (.ref C) name = some (some (.builtin id)))
    (hb : bindSpecial (.builtin id) (.ref x) = pure (.builtin id, [.ref x])) (hq : wpAny (model prog w) A (call (.builtin id) (.ref x :: args)) (fun v => Q (some v)) E s) :
    wpAny (model prog w) A (callSpecialIfBound? (.ref x) name args) Q E s := by
  simp only [callSpecialIfBound?, bindSpecialIfBound?]
  have a0 := I.type (M := model prog w)
  have a1 := looks_findIn (M := model prog w) X hf
  refine wpAny_holding (wpAny_bind (wpAny_bind ?_))
  unfold specialOf
  refine wpAny_bind (a0.at ?_)
  refine a1.at ?_
  simp only [hb]
  refine wpAny_bind (wpAny_askSetting (wpAny_ite ?_))
  have fin : wpAny (model prog w) A (call (.builtin id) ([.ref x] ++ args) >>= fun v => pure (some v)) Q E s :=
    wpAny_bind (wpAny_mono hq (fun v s' h' => wpAny_pure h') fun _ _ h' => h')
  split
  · exact wpAny_bind (wpAny_pure (wpAny_pure fin))
  · exact wpAny_tryCatch (wpAny_bind (wpAny_pure (wpAny_pure fin)))
theorem isObj_at (X : K.In s.heap) (I : InstAt s.heap x ox C od) (hm : mroIn K C (.type "object") = some true) : Looks (model prog w) s.heap (isInstance (.ref x) (.type "object")) true :=
  I.type.andThen (looks_mroIn X hm)
theorem call_eq_self {Q : Value → Shared → Prop} (T : ExcNe K C) (X : K.In s.heap) (I : InstAt s.heap x ox C od) (hq : Q (.bool true) s) : wpAny (model prog w) A (call (.builtin "object.__eq__") [.ref x, .ref x]) Q E s := by
  refine wpAny_call (codeAny_call_builtin F.cmp_object.eq.plain F.cmpEntry_eq ?_)
  exact @check_slot (model prog w) _ _ s "object.__eq__" "object" "__eq__" (.ref x) [.ref x] [] _ F.cmpKind_eq F.cmpSplit_eq (isObj_at X I T.ob) (F.cmpArgs_eq _ _) (objEq_entry_same hq)
theorem call_ne_self {Q : Value → Shared → Prop} (T : ExcNe K C) (X : K.In s.heap) (I : InstAt s.heap x ox C od) (hu : A.units + 1 < cLine) (hq : Q (.bool false) s) :
    wpAny (model prog w) A (call (.builtin "object.__ne__") [.ref x, .ref x]) Q E s := by
  have hu' : A.in1.units < cLine := hu
  refine wpAny_call (codeAny_call_builtin F.cmp_object.ne.plain F.cmpEntry_ne ?_)
  refine @check_slot (model prog w) _ _ s "object.__ne__" "object" "__ne__" (.ref x) [.ref x] [] _ F.cmpKind_ne F.cmpSplit_ne (isObj_at X I T.ob) (F.cmpArgs_ne _ _) ?_
  unfold Builtin.«object.__ne__»
  repeat (first
    | with_reducible refine wpAny_cRoomFor hu' ?_
    | with_reducible refine special_at X I T.eq (F.cmp_object.eq.bind (.ref x)) (call_eq_self T X I ?_)
    | wp_step)
  exact hq
theorem ne_self_inst {Q : Value → Shared → Prop} (T : ExcNe K C) (X : K.In s.heap) (I : InstAt s.heap x ox C od) (hu : A.units + 1 < cLine) (hq : Q (.bool false) s) :
    wpAny (model prog w) A (compareOp .NotEq (.ref x) (.ref x)) Q E s := by
  have hu0 : A.units < cLine := Nat.lt_of_succ_lt hu
  have a0 := I.type (M := model prog w)
  show wpAny _ _ (richCompare .NotEq (.ref x) (.ref x)) _ _ _
  simp only [richCompare, cmpInfo_NotEq, oneThing_ref]
  refine wpAny_holding (wpAny_bind (wpAny_cRoomFor hu0 ?_))
  refine wpAny_bind (a0.at (wpAny_bind (a0.at ?_)))
  rw [if_neg (by simp)]
  refine wpAny_bind (wpAny_pure ?_)
  simp only [Bool.false_eq_true, if_false]
  unfold tryCompare
  refine wpAny_bind (wpAny_bind (special_at X I T.ne (F.cmp_object.ne.bind (.ref x)) (call_ne_self T X I hu ?_)))
  exact wpAny_pure (wpAny_pure hq)
end

/-! ### the rule -/
open PySem.Spec PyProof.Rows L2
theorem all_yes : ∀ l : List Nat, (l.all fun _ => true) = true
  | [] => rfl
  | _ :: l => all_yes l
/-- a value that is not unequal to itself -/
inductive SelfNe (K : PySem.W.Frag) (H : Hp) : V → Prop where
  | flat {x : V} (h : scal x x = true) : SelfNe K H x
  | lst {a : Addr} {xs : List V} (h : H a = some (.lst xs)) : SelfNe K H (.ref a)
  | tup {a : Addr} {xs : List V} (h : H a = some (.tup xs)) : SelfNe K H (.ref a)
  | dict {a : Addr} {k : Key} {x : V} (h : H a = some (.dK [(k, x)])) : SelfNe K H (.ref a)
  | err {a C d : Addr} {fs : List (Str × V)} (h : H a = some (exo a C (some d))) (h' : H d = some (exd d fs)) (T : ExcNe K C) : SelfNe K H (.ref a)
theorem SelfNe.same {K : PySem.W.Frag} {H H' : Hp} {x : V} (e : Same H H') (h : SelfNe K H x) : SelfNe K H' x := by
  cases h with
  | flat h => exact .flat h
  | lst h => exact .lst (e _ _ h)
  | tup h => exact .tup (e _ _ h)
  | dict h => exact .dict (e _ _ h)
  | err h h' T => exact .err (e _ _ h) (e _ _ h') T
def rNeS (K : PySem.W.Frag) : R2 := fun x y H Q => x = y ∧ SelfNe K H x ∧ Q (.bl false) H
theorem op_neS {X : Cx} (hu : X.A.units + 1 < cLine) : OpR X (compareOp .NotEq) (rNeS X.K) := by
  intro pins s σ H x y v u Q I rx ry h
  obtain ⟨rfl, hx, q⟩ := h
  have hu0 : X.A.units < cLine := Nat.lt_of_succ_lt hu
  have fin : EP X pins σ Q (.bool false) s := ⟨.bl false, H, I, rfl, q⟩
  cases hx with
  | flat h => exact op_ne pins s σ H x x v u Q I rx ry ⟨h, by rw [decide_eq_true rfl]; exact q⟩
  | @lst a xs h =>
    cases (show v = Value.ref a from rx)
    cases (show u = Value.ref a from ry)
    have hz : ObjOk X.prog X.w H s.heap a (.lst xs) := I.hok a _ h
    obtain ⟨_, its, n, _, e⟩ := hz
    have hl : s.heap.IsList a its.toArray := ⟨_, e, rfl, n, rfl⟩
    have z := SeqAt.RcNeAt.lists hl hl rfl hu0 (e := fun _ => true) fun j _ _ => eq_self_at _ _ _
    exact z _ _ _ _ (by rw [all_yes]; exact fin)
  | @tup a xs h =>
    cases (show v = Value.ref a from rx)
    cases (show u = Value.ref a from ry)
    have hz : ObjOk X.prog X.w H s.heap a (.tup xs) := I.hok a _ h
    obtain ⟨_, its, _, o, e, ec, n, ed⟩ := hz
    have hl : s.heap.IsTuple a its.toArray := ⟨o, e, ec, n, ed⟩
    have z := SeqAt.RcNeAt.tuples hl hl hu0 (e := fun _ => true) fun j _ _ => eq_self_at _ _ _
    exact z _ _ _ _ (by rw [all_yes, beq_self_eq_true]; exact fin)
  | @dict a k x h =>
    cases (show v = Value.ref a from rx)
    cases (show u = Value.ref a from ry)
    have hz : ObjOk X.prog X.w H s.heap a (.dK [(k, x)]) := I.hok a _ h
    obtain ⟨_, ya, vs, rv, dv⟩ := hz
    cases rv with
    | cons r1 r2 =>
      rename_i p ps
      obtain ⟨k', u'⟩ := p
      obtain ⟨rfl, _⟩ := r1
      cases r2
      refine PySem.W.keq_ne (knd := mixKind X.prog X.w) (r := true) ya ya dv dv hu0 (fun _ => ?_) (by simpa using fin)
      have hh := PySem.W.KeqHits.hit (A := X.A.in1) (s := s) (kb := [(k, u')]) (k := k) (v := u') (y := u') (r := []) (e := true) (b := true) (by simp [valueAt]) (eq_self_at _ _ _) .nil
      exact hh
  | @err a C d fs h h' T =>
    cases (show v = Value.ref a from rx)
    cases (show u = Value.ref a from ry)
    obtain ⟨ox, od, J⟩ := inst_at I h h'
    exact ne_self_inst T I.kIn J hu fin
end BW
/-! List comprehensions whose elements change nothing that is known; a pen. -/
namespace BW
open PySem PySem.Spec PyProof.Rows L2

theorem same_new {H : Hp} {p : Addr} {o : HO} (h : H p = none) : Same H (upd H p o) := fun b x e => by
  rw [upd_ne (ne_of_none e h)]
  exact e
theorem same_over {H H' : Hp} {p : Addr} {o : HO} (h : H p = none) (e : Same H H') : Same H (upd H' p o) := fun b x q => by
  rw [upd_ne (ne_of_none q h)]
  exact e _ _ q
theorem _root_.L2.Same.seqT {K : PySem.W.Frag} {H H' : Hp} {a : Addr} {xs : List V} (e : Same H H') (h : SqT K H a xs) : SqT K H' a xs := by
  rcases h with (h | ⟨o, h⟩) | h
  · exact .inl (.inl (e _ _ h))
  · exact .inl (.inr ⟨o, e _ _ h⟩)
  · exact .inr h
theorem take_up {α : Type} {l : List α} {i : Nat} {x : α} (h : l[i]? = some x) : l.take (i + 1) = l.take i ++ [x] := by
  rw [List.take_add_one, h]
  rfl
theorem get_of {α β : Type} {xs : List α} {ys : List β} {i : Nat} {x : α} (hl : ys.length = xs.length) (h : xs[i]? = some x) : ∃ y, ys[i]? = some y := by
  have hi : i < ys.length := by
    rw [hl]
    exact (List.getElem?_eq_some_iff.mp h).1
  exact ⟨_, List.getElem?_eq_getElem hi⟩
theorem small_of {n : Nat} (h : n < 100000) : n < sizeLine := Nat.lt_of_lt_of_le h (by decide)

/-- the body of a comprehension at one item: gives y, whatever else is known -/
def Gives (te : TE) (σ : L2.St) (H1 : Hp) (y : V) : Prop := ∀ H, Same H1 H → ∀ Q : VK, (∀ H', Same H H' → Q y H') → te σ H Q
section
variable {K : PySem.W.Frag} {a : Addr} {xs ys : List V} {i0 : Nat} {te : TE} {vs : List Nat} {σ : L2.St} {H1 : Hp} {D : Addr} {Qd : Hp → Prop}
theorem lc_mapL (hl : SqL K H1 a xs) (hD : H1 D = none) (len : ys.length = xs.length) (lt : xs.length < 100000) (hw : ∀ x, wipe ((wipe σ vs).set i0 (some x)) vs = wipe σ vs)
    (hs : ∀ (i : Nat) (x y : V), xs[i]? = some x → ys[i]? = some y → Gives te ((wipe σ vs).set i0 (some x)) H1 y) (hd : ∀ H, Same H1 H → H D = some (.lst ys) → Qd H) :
    ∃ W : Nat → Nat → Hp → Prop, (∃ m, W 0 m (upd H1 D (.lst []))) ∧ ∀ i m H, W i m H →
      ((Itl K a).stop i H ∧ Qd H) ∨ ((Itl K a).go i H ∧ ∃ Nx : Hp → Prop, (∀ H', Nx H' → ∃ m', m' < m ∧ W (i + 1) m' H') ∧ ∀ x H', (Itl K a).yld i H x H' → gName i0 x (wipe σ vs) H' fun σ2 H2 => wipe σ2 vs = wipe σ vs ∧ tYes σ2 H2 fun b H3 =>
        if b = true then te σ2 H3 fun y H4 => ∃ acc, H4 D = some (.lst acc) ∧ acc.length < sizeLine ∧ Nx (upd H4 D (.lst (acc ++ [y]))) else Nx H3) := by
  refine lc_list (K := K) (a := a) (xs := xs) (fun i H => Same H1 H ∧ H D = some (.lst (ys.take i))) ⟨same_new hD, upd_same⟩ (fun i H _ hp => hp.1.seq hl) (fun i x H hx hp => ?_) (fun H hp => ?_)
  · obtain ⟨y, hy⟩ := get_of len hx
    refine ⟨hw x, ?_⟩
    dsimp only [tYes]
    rw [if_pos rfl]
    refine hs i x y hx hy H hp.1 _ fun H' e => ⟨ys.take i, e _ _ hp.2, ?_, same_over hD (hp.1.trans e), ?_⟩
    · refine small_of ?_
      rw [List.length_take]
      omega
    · rw [upd_same, take_up hy]
  · rw [← len, List.take_length] at hp
    exact hd H hp.1 hp.2
theorem lc_mapT (hl : SqT K H1 a xs) (hD : H1 D = none) (len : ys.length = xs.length) (lt : xs.length < 100000) (hw : ∀ x, wipe ((wipe σ vs).set i0 (some x)) vs = wipe σ vs)
    (hs : ∀ (i : Nat) (x y : V), xs[i]? = some x → ys[i]? = some y → Gives te ((wipe σ vs).set i0 (some x)) H1 y) (hd : ∀ H, Same H1 H → H D = some (.lst ys) → Qd H) :
    ∃ W : Nat → Nat → Hp → Prop, (∃ m, W 0 m (upd H1 D (.lst []))) ∧ ∀ i m H, W i m H →
      ((Itt K a).stop i H ∧ Qd H) ∨ ((Itt K a).go i H ∧ ∃ Nx : Hp → Prop, (∀ H', Nx H' → ∃ m', m' < m ∧ W (i + 1) m' H') ∧ ∀ x H', (Itt K a).yld i H x H' → gName i0 x (wipe σ vs) H' fun σ2 H2 => wipe σ2 vs = wipe σ vs ∧ tYes σ2 H2 fun b H3 =>
        if b = true then te σ2 H3 fun y H4 => ∃ acc, H4 D = some (.lst acc) ∧ acc.length < sizeLine ∧ Nx (upd H4 D (.lst (acc ++ [y]))) else Nx H3) := by
  refine lc_tup (K := K) (a := a) (xs := xs) (fun i H => Same H1 H ∧ H D = some (.lst (ys.take i))) ⟨same_new hD, upd_same⟩ (fun i H _ hp => hp.1.seqT hl) (fun i x H hx hp => ?_) (fun H hp => ?_)
  · obtain ⟨y, hy⟩ := get_of len hx
    refine ⟨hw x, ?_⟩
    dsimp only [tYes]
    rw [if_pos rfl]
    refine hs i x y hx hy H hp.1 _ fun H' e => ⟨ys.take i, e _ _ hp.2, ?_, same_over hD (hp.1.trans e), ?_⟩
    · refine small_of ?_
      rw [List.length_take]
      omega
    · rw [upd_same, take_up hy]
  · rw [← len, List.take_length] at hp
    exact hd H hp.1 hp.2
/-- nothing is taken -/
theorem lc_noneT {tt : TT} (hl : SqT K H1 a xs) (hD : H1 D = none) (hw : ∀ x, wipe ((wipe σ vs).set i0 (some x)) vs = wipe σ vs)
    (hs : ∀ (i : Nat) (x : V), xs[i]? = some x → ∀ H, Same H1 H → ∀ Q : Bool → Hp → Prop, (∀ H', Same H H' → Q false H') → tt ((wipe σ vs).set i0 (some x)) H Q) (hd : ∀ H, Same H1 H → H D = some (.lst []) → Qd H) :
    ∃ W : Nat → Nat → Hp → Prop, (∃ m, W 0 m (upd H1 D (.lst []))) ∧ ∀ i m H, W i m H →
      ((Itt K a).stop i H ∧ Qd H) ∨ ((Itt K a).go i H ∧ ∃ Nx : Hp → Prop, (∀ H', Nx H' → ∃ m', m' < m ∧ W (i + 1) m' H') ∧ ∀ x H', (Itt K a).yld i H x H' → gName i0 x (wipe σ vs) H' fun σ2 H2 => wipe σ2 vs = wipe σ vs ∧ tt σ2 H2 fun b H3 =>
        if b = true then te σ2 H3 fun y H4 => ∃ acc, H4 D = some (.lst acc) ∧ acc.length < sizeLine ∧ Nx (upd H4 D (.lst (acc ++ [y]))) else Nx H3) := by
  refine lc_tup (K := K) (a := a) (xs := xs) (fun i H => Same H1 H ∧ H D = some (.lst [])) ⟨same_new hD, upd_same⟩ (fun i H _ hp => hp.1.seqT hl) (fun i x H hx hp => ?_) (fun H hp => hd H hp.1 hp.2)
  refine ⟨hw x, hs i x hx H hp.1 _ fun H' e => ?_⟩
  rw [if_neg Bool.false_ne_true]
  exact ⟨hp.1.trans e, e _ _ hp.2⟩
theorem lc_mapR {n : Nat} {lo : Int} (hD : H1 D = none) (len : ys.length = n) (lt : n < 100000) (hw : ∀ x, wipe ((wipe σ vs).set i0 (some x)) vs = wipe σ vs)
    (hs : ∀ (i : Nat) (y : V), i < n → ys[i]? = some y → Gives te ((wipe σ vs).set i0 (some (.int (lo + i)))) H1 y) (hd : ∀ H, Same H1 H → H D = some (.lst ys) → Qd H) :
    ∃ W : Nat → Nat → Hp → Prop, (∃ m, W 0 m (upd H1 D (.lst []))) ∧ ∀ i m H, W i m H →
      ((Itr lo n).stop i H ∧ Qd H) ∨ ((Itr lo n).go i H ∧ ∃ Nx : Hp → Prop, (∀ H', Nx H' → ∃ m', m' < m ∧ W (i + 1) m' H') ∧ ∀ x H', (Itr lo n).yld i H x H' → gName i0 x (wipe σ vs) H' fun σ2 H2 => wipe σ2 vs = wipe σ vs ∧ tYes σ2 H2 fun b H3 =>
        if b = true then te σ2 H3 fun y H4 => ∃ acc, H4 D = some (.lst acc) ∧ acc.length < sizeLine ∧ Nx (upd H4 D (.lst (acc ++ [y]))) else Nx H3) := by
  refine lc_range (lo := lo) (n := n) (fun i H => Same H1 H ∧ H D = some (.lst (ys.take i))) ⟨same_new hD, upd_same⟩ (fun i H hi hp => ?_) (fun H hp => ?_)
  · have hy : ys[i]? = some (ys[i]'(by omega)) := List.getElem?_eq_getElem _
    refine ⟨hw _, ?_⟩
    dsimp only [tYes]
    rw [if_pos rfl]
    refine hs i _ hi hy H hp.1 _ fun H' e => ⟨ys.take i, e _ _ hp.2, ?_, same_over hD (hp.1.trans e), ?_⟩
    · refine small_of ?_
      rw [List.length_take]
      omega
    · rw [upd_same, take_up hy]
  · rw [← len, List.take_length] at hp
    exact hd H hp.1 hp.2
end

/-! ### the pen: what the script has told so far -/
/-- at p: the cells, how many were read (n at most), what is left of a great one -/
def Pen (H : Hp) (p : Addr) (n : Nat) : Prop := ∃ (L : Addr) (ns : List Int) (k : Nat) (r : Int), H p = some (.lst [.ref L, .int (k : Int), .int r]) ∧ H L = some (.lst (ns.map V.int)) ∧ p ≠ L ∧ ns.length ≤ 100 ∧ k ≤ n ∧ 0 ≤ r
/-- all but p is as it was -/
def Kp (p : Addr) (H H' : Hp) : Prop := ∀ b o, b ≠ p → H b = some o → H' b = some o
theorem Kp.refl (p : Addr) (H : Hp) : Kp p H H := fun _ _ _ h => h
theorem Kp.trans {p : Addr} {H H1 H2 : Hp} (a : Kp p H H1) (b : Kp p H1 H2) : Kp p H H2 := fun c o n h => b c o n (a c o n h)
theorem Kp.upd {p : Addr} {H : Hp} {o : HO} : Kp p H (upd H p o) := fun b u n h => by
  rw [upd_ne n]
  exact h
theorem _root_.L2.Same.kp {p : Addr} {H H' : Hp} (e : Same H H') : Kp p H H' := fun b o _ h => e b o h
theorem Pen.same {p : Addr} {n : Nat} {H H' : Hp} (h : Pen H p n) (e : Same H H') : Pen H' p n := by
  obtain ⟨L, ns, k, r, h1, h2, h3⟩ := h
  exact ⟨L, ns, k, r, e _ _ h1, e _ _ h2, h3⟩
theorem cut_int (ns : List Int) (k : Int) : ∃ ms : List Int, cutV (ns.map V.int) none (some k) = ms.map V.int ∧ ms.length ≤ ns.length := by
  unfold cutV
  refine ⟨((ns.drop (HT.sIx (ns.map V.int).length 0 none)).take (HT.sIx (ns.map V.int).length (ns.map V.int).length (some k) - HT.sIx (ns.map V.int).length 0 none)), ?_, ?_⟩
  · rw [List.map_take, List.map_drop]
  · rw [List.length_take, List.length_drop]
    omega
end BW
/-! What a reading evaluates to, told by a word about the value and the heap; making errors, their attributes, isinstance, != of equals. -/
namespace BW
open PySem PySem.Spec PyProof.Rows L2

/-! ### evaluates to something of which P holds -/
/-- P stays when more is known -/
def Mon (P : V → Hp → Prop) : Prop := ∀ v H H', Evl.Ex H H' → P v H → P v H'
def Evp (te : TE) (σ : L2.St) (H : Hp) (P : V → Hp → Prop) : Prop := ∀ H1, Evl.Ex H H1 → ∀ Q : VK, (∀ v H2, Evl.Ex H1 H2 → P v H2 → Q v H2) → te σ H1 Q
def Eap (ta : TA) (σ : L2.St) (H : Hp) (P : List V → Hp → Prop) : Prop := ∀ H1, Evl.Ex H H1 → ∀ Q : List V → Hp → Prop, (∀ vs H2, Evl.Ex H1 H2 → P vs H2 → Q vs H2) → ta σ H1 Q
section
variable {te ta tb : TE} {tr : TA} {σ : L2.St} {H H' : Hp} {P P' : V → Hp → Prop} {R R' : List V → Hp → Prop} {x v : V}
theorem Evp.mono (h : Evp te σ H P) (e : Evl.Ex H H') : Evp te σ H' P := fun H1 a Q q => h H1 (e.trans a) Q q
theorem Evp.imp (h : Evp te σ H P) (k : ∀ v H2, Evl.Ex H H2 → P v H2 → P' v H2) : Evp te σ H P' := fun H1 e Q q => h H1 e Q fun v H2 e2 p => q v H2 e2 (k v H2 (e.trans e2) p)
theorem evp_of (h : Evl.Ev te σ H x) : Evp te σ H (fun v _ => v = x) := fun H1 e Q q => h H1 e Q fun H2 e2 => q x H2 e2 rfl
theorem ev_of (h : Evp te σ H (fun v _ => v = x)) : Evl.Ev te σ H x := fun H1 e Q q => h H1 e Q fun v H2 e2 p => by
  subst p
  exact q H2 e2
theorem evp_ofL {xs : List V} (h : Evl.EvL te σ H xs) : Evp te σ H (fun v H2 => ∃ p, v = .ref p ∧ H2 p = some (.lst xs)) := fun H1 e Q q => h H1 e Q fun p H2 _ e2 hp => q (.ref p) H2 e2 ⟨p, rfl, hp⟩
theorem eap_nil : Eap tNil σ H (fun vs _ => vs = []) := fun H1 _ Q q => q [] H1 (Evl.Ex.refl H1) rfl
/-- a list of values, each with its word -/
inductive Alls : List (V → Hp → Prop) → List V → Hp → Prop where
  | nil {H : Hp} : Alls [] [] H
  | cons {P : V → Hp → Prop} {Ps : List (V → Hp → Prop)} {v : V} {vs : List V} {H : Hp} (h : P v H) (r : Alls Ps vs H) : Alls (P :: Ps) (v :: vs) H
theorem Alls.mono : ∀ {Ps : List (V → Hp → Prop)} {vs : List V} {H H' : Hp}, (∀ P ∈ Ps, Mon P) → Evl.Ex H H' → Alls Ps vs H → Alls Ps vs H'
  | _, _, _, _, _, _, .nil => .nil
  | _, _, _, _, m, e, .cons h r => .cons (m _ (List.mem_cons_self ..) _ _ _ e h) (Alls.mono (fun P hP => m P (List.mem_cons_of_mem _ hP)) e r)
theorem Alls.length : ∀ {Ps : List (V → Hp → Prop)} {vs : List V} {H : Hp}, Alls Ps vs H → vs.length = Ps.length
  | _, _, _, .nil => rfl
  | _, _, _, .cons _ r => congrArg Nat.succ r.length
theorem Alls.get : ∀ {Ps : List (V → Hp → Prop)} {vs : List V} {H : Hp} {i : Nat} {P : V → Hp → Prop}, Alls Ps vs H → Ps[i]? = some P → ∃ v, vs[i]? = some v ∧ P v H
  | _, _, _, _, _, .nil, h => by simp at h
  | _, _, _, 0, P, .cons h _, e => by
    have e2 : _ = P := Option.some.inj e
    subst e2
    exact ⟨_, rfl, h⟩
  | _, _, _, i + 1, P, .cons _ r, e => r.get (i := i) e
theorem Alls.append : ∀ {Ps Ps' : List (V → Hp → Prop)} {vs vs' : List V} {H : Hp}, Alls Ps vs H → Alls Ps' vs' H → Alls (Ps ++ Ps') (vs ++ vs') H
  | _, _, _, _, _, .nil, r => r
  | _, _, _, _, _, .cons h t, r => .cons h (t.append r)
theorem eap_cons {Ps : List (V → Hp → Prop)} (m : Mon P) (h : Evp te σ H P) (hr : Eap tr σ H (Alls Ps)) : Eap (tCons te tr) σ H (Alls (P :: Ps)) := fun H1 e Q q =>
  h H1 e _ fun v H2 e2 p => hr H2 (e.trans e2) _ fun vs H3 e3 r => q _ H3 (e2.trans e3) (.cons (m v H2 H3 e3 p) r)
theorem eap_nilA : Eap tNil σ H (Alls []) := fun H1 _ Q q => q [] H1 (Evl.Ex.refl H1) .nil
/-- a list of such values -/
def LstOf (Ps : List (V → Hp → Prop)) : V → Hp → Prop := fun v H => ∃ p vs, v = .ref p ∧ H p = some (.lst vs) ∧ Alls Ps vs H
def TupOf (Ps : List (V → Hp → Prop)) : V → Hp → Prop := fun v H => ∃ p vs, v = .ref p ∧ H p = some (.tup vs) ∧ Alls Ps vs H
theorem mon_lst {Ps : List (V → Hp → Prop)} (m : ∀ P ∈ Ps, Mon P) : Mon (LstOf Ps) := fun v H H' e h => by
  obtain ⟨p, vs, rfl, hp, r⟩ := h
  exact ⟨p, vs, rfl, e _ _ hp, r.mono m e⟩
theorem mon_tup {Ps : List (V → Hp → Prop)} (m : ∀ P ∈ Ps, Mon P) : Mon (TupOf Ps) := fun v H H' e h => by
  obtain ⟨p, vs, rfl, hp, r⟩ := h
  exact ⟨p, vs, rfl, e _ _ hp, r.mono m e⟩
theorem evp_lst {Ps : List (V → Hp → Prop)} (m : ∀ P ∈ Ps, Mon P) (h : Eap tr σ H (Alls Ps)) (hl : Ps.length ≤ 100000) : Evp (tLst tr) σ H (LstOf Ps) := fun H1 e Q q =>
  h H1 e _ fun vs H2 e2 r => ⟨by rw [r.length]; exact Evl.sz_of hl, fun p hp => q (.ref p) _ (e2.trans (Evl.Ex.new hp)) ⟨p, vs, rfl, upd_same, r.mono m (Evl.Ex.new hp)⟩⟩
theorem evp_tup {Ps : List (V → Hp → Prop)} (m : ∀ P ∈ Ps, Mon P) (h : Eap tr σ H (Alls Ps)) (hl : Ps.length ≤ 100000) : Evp (tTup tr) σ H (TupOf Ps) := fun H1 e Q q =>
  h H1 e _ fun vs H2 e2 r => ⟨by rw [r.length]; exact Evl.sz_of hl, fun p hp => q (.ref p) _ (e2.trans (Evl.Ex.new hp)) ⟨p, vs, rfl, upd_same, r.mono m (Evl.Ex.new hp)⟩⟩
/-- xs + ys -/
theorem evp_cat {Ps Ps' : List (V → Hp → Prop)} (m : ∀ P ∈ Ps, Mon P) (m' : ∀ P ∈ Ps', Mon P) (h : Evp ta σ H (LstOf Ps)) (h' : Evp tb σ H (LstOf Ps')) (hl : Ps.length + Ps'.length ≤ 100000) : Evp (tOp rCat ta tb) σ H (LstOf (Ps ++ Ps')) := fun H1 e Q q =>
  h H1 e _ fun v H2 e2 hv => h' H2 (e.trans e2) _ fun v' H3 e3 hv' => by
    obtain ⟨p, vs, rfl, hp, r⟩ := mon_lst m _ _ _ e3 hv
    obtain ⟨p', vs', rfl, hp', r'⟩ := hv'
    refine ⟨p, p', vs, vs', rfl, rfl, hp, hp', ?_, fun o no => q (.ref o) _ ((e2.trans e3).trans (Evl.Ex.new no)) ⟨o, vs ++ vs', rfl, upd_same, (r.mono m (Evl.Ex.new no)).append (r'.mono m' (Evl.Ex.new no))⟩⟩
    rw [r.length, r'.length]
    exact Evl.sz_of hl
end

/-! ### errors as values -/
/-- an instance of the error class at C with the attributes fs -/
def ErrV (C : Addr) (fs : List (Str × V)) : V → Hp → Prop := fun v H => ∃ a d, v = .ref a ∧ H a = some (exo a C (some d)) ∧ H d = some (exd d fs)
theorem mon_err {C : Addr} {fs : List (Str × V)} : Mon (ErrV C fs) := fun v H H' e h => by
  obtain ⟨a, d, rfl, h1, h2⟩ := h
  exact ⟨a, d, rfl, e _ _ h1, e _ _ h2⟩
/-- an __init__ of one field, of two -/
def spI1 (K : PySem.W.Frag) (f : Str) : Sp := fun vs H Q _ => ∃ (a C : Addr) (x : V), vs = [.ref a, x] ∧ OexC K C ∧ PySem.W.findIn K (.ref C) f = some none ∧ H a = some (exo a C none) ∧
  ∀ d H', H d = none → d ≠ a → (∀ b o, b ≠ a → H b = some o → H' b = some o) → H' a = some (exo a C (some d)) → H' d = some (exd d [(f, x)]) → Q .non H'
def spI2 (K : PySem.W.Frag) (f g : Str) : Sp := fun vs H Q _ => ∃ (a C : Addr) (x y : V), vs = [.ref a, x, y] ∧ OexC K C ∧ PySem.W.findIn K (.ref C) f = some none ∧ PySem.W.findIn K (.ref C) g = some none ∧ H a = some (exo a C none) ∧
  ∀ d H', H d = none → d ≠ a → (∀ b o, b ≠ a → H b = some o → H' b = some o) → H' a = some (exo a C (some d)) → H' d = some (exd d [(g, y), (f, x)]) → Q .non H'
section
variable {σ : L2.St} {H : Hp} {te tu : TE} {x y : V} {K : PySem.W.Frag} {C : Addr} {f g : Str}
theorem kept_new {H H' : Hp} {a C : Addr} (na : H a = none) (k : ∀ b o, b ≠ a → upd H a (exo a C none) b = some o → H' b = some o) : Evl.Ex H H' := fun b o h => by
  have nb : b ≠ a := ne_of_none h na
  exact k b o nb (by rw [upd_ne nb]; exact h)
theorem evp_mk1 (O : OexC K C) (no : PySem.W.findIn K (.ref C) f = some none) (h : Evl.Ev te σ H x) : Evp (tMkV C 1 0 (spI1 K f) (fun vs _ => vs) (tCons te tNil) tNil) σ H (ErrV C [(f, x)]) := fun H1 e Q q =>
  h H1 e _ fun H2 e2 => ⟨rfl, rfl, fun a na => ⟨a, C, x, rfl, O, no, upd_same, fun d H' nd _ k h1 h2 => ⟨rfl, q (.ref a) H' (e2.trans (kept_new na k)) ⟨a, d, rfl, h1, h2⟩⟩⟩⟩
theorem evp_mk1k (O : OexC K C) (no : PySem.W.findIn K (.ref C) f = some none) (h : Evl.Ev te σ H x) : Evp (tMkV C 0 1 (spI1 K f) (fun vs zs => vs ++ zs) tNil (tCons te tNil)) σ H (ErrV C [(f, x)]) := fun H1 e Q q =>
  h H1 e _ fun H2 e2 => ⟨rfl, rfl, fun a na => ⟨a, C, x, rfl, O, no, upd_same, fun d H' nd _ k h1 h2 => ⟨rfl, q (.ref a) H' (e2.trans (kept_new na k)) ⟨a, d, rfl, h1, h2⟩⟩⟩⟩
theorem evp_mk2 (O : OexC K C) (no : PySem.W.findIn K (.ref C) f = some none) (no' : PySem.W.findIn K (.ref C) g = some none) (h : Evl.Ev te σ H x) (h' : Evl.Ev tu σ H y) :
    Evp (tMkV C 2 0 (spI2 K f g) (fun vs _ => vs) (tCons te (tCons tu tNil)) tNil) σ H (ErrV C [(g, y), (f, x)]) := fun H1 e Q q =>
  h H1 e _ fun H2 e2 => h' H2 (e.trans e2) _ fun H3 e3 => ⟨rfl, rfl, fun a na => ⟨a, C, x, y, rfl, O, no, no', upd_same, fun d H' nd _ k h1 h2 => ⟨rfl, q (.ref a) H' ((e2.trans e3).trans (kept_new na k)) ⟨a, d, rfl, h1, h2⟩⟩⟩⟩
/-- the keywords the other way about -/
theorem evp_mk2k (O : OexC K C) (no : PySem.W.findIn K (.ref C) f = some none) (no' : PySem.W.findIn K (.ref C) g = some none) (h' : Evl.Ev tu σ H y) (h : Evl.Ev te σ H x) :
    Evp (tMkV C 0 2 (spI2 K f g) (fun vs zs => vs ++ zs.reverse) tNil (tCons tu (tCons te tNil))) σ H (ErrV C [(g, y), (f, x)]) := fun H1 e Q q =>
  h' H1 e _ fun H2 e2 => h H2 (e.trans e2) _ fun H3 e3 => ⟨rfl, rfl, fun a na => ⟨a, C, x, y, rfl, O, no, no', upd_same, fun d H' nd _ k h1 h2 => ⟨rfl, q (.ref a) H' ((e2.trans e3).trans (kept_new na k)) ⟨a, d, rfl, h1, h2⟩⟩⟩⟩
/-- e.f -/
theorem ev_xa {fs : List (Str × V)} (X : XfC K C) (no : PySem.W.findIn K (.ref C) f = some none) (h : Evp te σ H (ErrV C fs)) (hl : fs.lookup f = some x) : Evl.Ev (tXA K f te) σ H x := fun H1 e Q q =>
  h H1 e _ fun v H2 e2 hv => by
    obtain ⟨a, d, rfl, h1, h2⟩ := hv
    exact ⟨a, C, d, fs, x, rfl, h1, h2, X, no, hl, q H2 e2⟩
/-- x != y of the same value -/
theorem ev_neS (h : Evl.Ev te σ H x) (h' : Evl.Ev tu σ H x) (hs : SelfNe K H x) : Evl.Ev (tOp (rNeS K) te tu) σ H (.bl false) := fun H1 e Q q =>
  h H1 e _ fun H2 e2 => h' H2 (e.trans e2) _ fun H3 e3 => ⟨rfl, hs.same ((e.trans e2).trans e3), q H3 (e2.trans e3)⟩
theorem rc_isX {a d D : Addr} {fs : List (Str × V)} {b : Bool} {c : V} {cv : Value} (h1 : H a = some (exo a C (some d))) (h2 : H d = some (exd d fs)) (S : ExcC K C) (k : ClsV c cv) (hk : PySem.W.kitOne K (.ref C) cv = some b) :
    Evl.RC (rIsX K) [.ref a, c] H (.bl b) := fun H1 e Q q => ⟨a, C, d, fs, c, cv, b, rfl, e _ _ h1, e _ _ h2, S, k, hk, q H1 (Evl.Ex.refl H1)⟩
end

/-! ### an error without an __init__ of its own, made with nothing -/
theorem pe_exc0 {X : Cx} {C : Addr} {bmB : List Value} {B newId initId : String} {x : Str} {p pos : Pos} (F : ExcBaseFacts B newId initId bmB) (q : PySem.W.excIn X.K C bmB newId = true) (gC : X.mg x = some (.ref C)) (kC : PySem.W.keepIn X.K (.ref C) = true) (hg : Gl X x)
    (hdb : (x == ("__debug__" : Str)) = false := by decide) : PE X (.Call (.Name x p) [] [] pos) (fun _ H Q => ∀ a, H a = none → Q (.ref a) (upd H a (ExO (.ref C) a))) := by
  refine ⟨fun pins s σ H Q I h => ?_⟩
  refine wpAny_Call_Name_kw (ld_glob I hg gC ?_ hdb)
  refine PySem.W.callWith_K0 I.kIn kC ?_
  show wpAny _ _ (call (.ref C) []) _ _ _
  obtain ⟨bm, N, nm, qn, bs, hdct, sn, sub, ab, col, dd, k0, k1, k2, k3, k5, mN, hC, hN, hni, T⟩ := exc_obj I.kIn q
  refine wpAny_call_exc_subT F T hC hN hni (fun h' a hm => ?_) (Nat.zero_le _)
  have hn : H a = none := I.hok.gone hm.new
  obtain ⟨t, ht, _, _⟩ := hm.there
  exact ⟨.ref a, upd H a (ExO (.ref C) a), I.laidN hm.keeps hm.new hn (exO_ok ht ⟨rfl, rfl⟩ rfl rfl rfl (show 4 < 6 by decide)), rfl, h a hn⟩
def ErrO (C : Addr) : V → Hp → Prop := fun v H => ∃ a, v = .ref a ∧ H a = some (ExO (.ref C) a)
theorem mon_errO {C : Addr} : Mon (ErrO C) := fun v H H' e h => by
  obtain ⟨a, rfl, h1⟩ := h
  exact ⟨a, rfl, e _ _ h1⟩
theorem evp_exc0 {C : Addr} {σ : L2.St} {H : Hp} : Evp (fun _ H Q => ∀ a, H a = none → Q (.ref a) (upd H a (ExO (.ref C) a))) σ H (ErrO C) := fun H1 e Q q a na =>
  q (.ref a) _ (Evl.Ex.new na) ⟨a, rfl, upd_same⟩
/-- an instance of the error class at C, with attributes or without -/
def Err (C : Addr) : V → Hp → Prop := fun v H => (∃ fs, ErrV C fs v H) ∨ ErrO C v H
theorem mon_errA {C : Addr} : Mon (Err C) := fun v H H' e h => by
  rcases h with ⟨fs, h⟩ | h
  · exact .inl ⟨fs, mon_err _ _ _ e h⟩
  · exact .inr (mon_errO _ _ _ e h)
def rIsA (K : PySem.W.Frag) : List V → Hp → VK → Prop := fun xs H Q => ∃ (x : V) (C : Addr) (c : V) (cv : Value) (b : Bool), xs = [x, c] ∧ Err C x H ∧ ExcC K C ∧ ClsV c cv ∧ PySem.W.kitOne K (.ref C) cv = some b ∧ Q (.bl b) H
def rIsAT (K : PySem.W.Frag) : List V → Hp → VK → Prop := fun xs H Q => ∃ (x : V) (C : Addr) (tp : Addr) (cs : List V) (us : List Value) (b : Bool),
  xs = [x, .ref tp] ∧ Err C x H ∧ ExcC K C ∧ H tp = some (.tup cs) ∧ Paired ClsV cs us ∧ PySem.W.kitAny K (.ref C) us = some b ∧ Q (.bl b) H
section
variable {X : Cx}
theorem call_isA : CallR X (.builtin "isinstance") (rIsA X.K) := by
  intro pins s σ H xs us Q I r h
  obtain ⟨x, C, c, cv, b, rfl, hx, T, k, e, q⟩ := h
  rcases hx with ⟨fs, a, d, rfl, ea, ed⟩ | ⟨a, rfl, ea⟩
  · exact call_isX pins s σ H _ us Q I r ⟨a, C, d, fs, c, cv, b, rfl, ea, ed, T, k, e, q⟩
  · obtain ⟨u1, u2, rfl, r1, r2⟩ := vals2 r
    obtain rfl := k.eq r2
    cases (show u1 = Value.ref a from r1)
    obtain ⟨⟨oe, vs, ho, hz, hd, _⟩, _, _⟩ := I.hok a _ ea
    have J : PySem.W.InstAt s.heap a oe C none := by
      obtain ⟨oc, od, oda, osl⟩ := oe
      obtain ⟨h1, h2⟩ := hz
      dsimp only at h1 h2 hd
      subst h1 h2 hd
      exact ⟨ho, rfl, rfl, trivial⟩
    exact PySem.W.kia_one (PySem.W.handS_kitx_exc T.hg T.hk T.hs T.hd T.ha T.hn T.ht T.hm) I.kIn J e (fun z => nomatch z) fun tk => ⟨.bl b, H, I.tok tk, rfl, q⟩
theorem call_isAT : CallR X (.builtin "isinstance") (rIsAT X.K) := by
  intro pins s σ H xs us Q I r h
  obtain ⟨x, C, tp, cs, ws, b, rfl, hx, T, hT, k, e, q⟩ := h
  rcases hx with ⟨fs, a, d, rfl, ea, ed⟩ | ⟨a, rfl, ea⟩
  · exact call_isXT pins s σ H _ us Q I r ⟨a, C, d, fs, tp, cs, ws, b, rfl, ea, ed, T, hT, k, e, q⟩
  · obtain ⟨u1, u2, rfl, r1, r2⟩ := vals2 r
    cases (show u1 = Value.ref a from r1)
    cases (show u2 = Value.ref tp from r2)
    obtain ⟨⟨oe, vs, ho, hz, hd, _⟩, _, _⟩ := I.hok a _ ea
    have J : PySem.W.InstAt s.heap a oe C none := by
      obtain ⟨oc, od, oda, osl⟩ := oe
      obtain ⟨h1, h2⟩ := hz
      dsimp only at h1 h2 hd
      subst h1 h2 hd
      exact ⟨ho, rfl, rfl, trivial⟩
    have hx : ObjOk X.prog X.w H s.heap tp (.tup cs) := I.hok tp _ hT
    obtain ⟨_, its, rv, ot, g1, g2, n, g3⟩ := hx
    obtain rfl := ClsV.all k rv
    obtain ⟨oc, dd, dt, sl⟩ := ot
    dsimp only at g2 g3
    subst g2
    subst g3
    exact PySem.W.kia_tup (PySem.W.handS_kitx_exc T.hg T.hk T.hs T.hd T.ha T.hn T.ht T.hm) I.kIn J g1 e (fun z => nomatch z) fun tk => ⟨.bl b, H, I.tok tk, rfl, q⟩
end
theorem rc_isA {K : PySem.W.Frag} {H : Hp} {C : Addr} {b : Bool} {x c : V} {cv : Value} (h : Err C x H) (S : ExcC K C) (k : ClsV c cv) (hk : PySem.W.kitOne K (.ref C) cv = some b) : Evl.RC (rIsA K) [x, c] H (.bl b) := fun H1 e Q q =>
  ⟨x, C, c, cv, b, rfl, mon_errA _ _ _ e h, S, k, hk, q H1 (Evl.Ex.refl H1)⟩
end BW
/-! Statements and loops over what a reading evaluates to; classes of errors with one field or two. -/
namespace BW
open PySem PySem.Spec PyProof.Rows L2
section
variable {te ta tb tl : TE} {tr : TA} {σ : L2.St} {H H' : Hp} {P P' : V → Hp → Prop} {x v : V} {D : Ends} {tu tz : TS} {K : PySem.W.Frag}
theorem evp_var {i : Nat} (m : Mon P) (h : σ[i]? = some (some v)) (p : P v H) : Evp (tVar i) σ H P := fun H1 e Q q => ⟨v, h, q v H1 (Evl.Ex.refl H1) (m _ _ _ e p)⟩
theorem s_asgP {i : Nat} (h : Evp te σ H P) (k : ∀ v H1, Evl.Ex H H1 → P v H1 → D.nx (σ.set i (some v)) H1) : tAsg te (gName i) D σ H := h H (Evl.Ex.refl H) _ k
theorem q_asgP {i : Nat} (h : Evp te σ H P) (k : ∀ v H1, Evl.Ex H H1 → P v H1 → tz D (σ.set i (some v)) H1) : tSeq (tAsg te (gName i)) tz D σ H := s_asgP (D := { D with nx := tz D }) h k
theorem s_retP (h : Evp te σ H P) (k : ∀ v H1, Evl.Ex H H1 → P v H1 → D.rt v H1) : tRet te D σ H := h H (Evl.Ex.refl H) _ k
/-- xs[i] of a list of values with words -/
theorem item_of {Ps : List (V → Hp → Prop)} {i : Nat} (hv : LstOf Ps v H) (hi : Ps[i]? = some P) : ∃ y, P y H ∧ ∀ {H1 : Hp}, Evl.Ex H H1 → Evl.RV (rIxL K) v (.int (i : Int)) H1 y := by
  obtain ⟨p, vs, rfl, hp, r⟩ := hv
  obtain ⟨y, hy, py⟩ := r.get hi
  exact ⟨y, py, fun e => Evl.rv_ixL (Evl.sq_of (e _ _ hp)) (atI_nat hy)⟩
theorem evp_ev (m : Mon P) (h : Evl.Ev te σ H x) (p : P x H) : Evp te σ H P := fun H1 e Q q => h H1 e _ fun H2 e2 => q x H2 e2 (m _ _ _ (e.trans e2) p)
/-- a loop over a tuple that is made on the way -/
theorem q_forTp {Ps : List (V → Hp → Prop)} {j : Nat} (m : ∀ P ∈ Ps, Mon P) (h : Evp tl σ H (TupOf Ps)) (Pv : Nat → L2.St → Hp → Prop) (h0 : ∀ H1, Evl.Ex H H1 → Pv 0 σ H1)
    (hs : ∀ (H1 : Hp), Evl.Ex H H1 → ∀ (i : Nat) (x : V) (P : V → Hp → Prop) (σ' : L2.St) (H' : Hp), Ps[i]? = some P → P x H' → Evl.Ex H1 H' → Pv i σ' H' →
      tu { D with nx := fun σ2 H2 => Evl.Ex H1 H2 ∧ Pv (i + 1) σ2 H2, ct := fun σ2 H2 => Evl.Ex H1 H2 ∧ Pv (i + 1) σ2 H2, bk := tz D } (σ'.set j (some x)) H') (hd : ∀ (H1 : Hp), Evl.Ex H H1 → ∀ (σ' : L2.St) (H' : Hp), Evl.Ex H1 H' → Pv Ps.length σ' H' → tz D σ' H') :
    tSeq (tFor (iTup K tl) (gName j) tu) tz D σ H := h H (Evl.Ex.refl H) _ fun v H1 e hv => by
  obtain ⟨p, vs, rfl, hp, r⟩ := hv
  refine ⟨p, rfl, ⟨vs, Evl.st_of hp⟩, for_tup (xs := vs) (D := { D with nx := tz D }) (fun i σ' H' => Evl.Ex H1 H' ∧ Pv i σ' H') ⟨Evl.Ex.refl H1, h0 H1 e⟩ (fun i σ' H' _ q => Evl.ex_t q.1 (Evl.st_of hp)) (fun i x σ' H' hi q => ?_)
    (fun σ' H' q => hd H1 e σ' H' q.1 (by rw [← r.length]; exact q.2))⟩
  have hlt : i < Ps.length := by
    rw [← r.length]
    exact (List.getElem?_eq_some_iff.mp hi).1
  obtain ⟨y, hy, py⟩ := r.get (List.getElem?_eq_getElem hlt)
  obtain rfl : x = y := Option.some.inj (hi.symm.trans hy)
  exact hs H1 e i x _ σ' H' (List.getElem?_eq_getElem hlt) (m _ (List.getElem_mem hlt) _ _ _ q.1 py) q.1 q.2
end

/-! ### classes of errors -/
section
variable {P : Program} {w : World} {K : PySem.W.Frag} {mg : Str → Option Value} {base : Heap}
theorem kb_pos {x qual : Str} {st : Stmt} {f : Addr} {fd : FuncData} {ps : List Str} (F : Fun K x qual st f fd) (n : Nat)
    (h : ∀ (kV doc pm : Value) (an : Option Addr) (cdv ct : Value) (us : List Value), us.length = n → bindArgs (PySem.W.fnOf x qual (defArgs st) (defBody st) (defScope st) .none kV doc pm an cdv ct) ⟨us, []⟩ = pure (ps.zip us)) :
    KBn K fd ps n [] (fun us _ => us) (fun vs _ => vs) := by
  obtain ⟨oc, od, kV, doc, pm, an, cdv, ct, osl, rfl, lk, hcd⟩ := F.ex
  exact ⟨fun s us ws X l1 l2 => BindsTo.of_eq (h kV doc pm an cdv ct us l1), fun r _ => r⟩
theorem kb_kw1 {x qual : Str} {st : Stmt} {f : Addr} {fd : FuncData} {ps ks : List Str} (F : Fun K x qual st f fd)
    (h : ∀ (kV doc pm : Value) (an : Option Addr) (cdv ct : Value) (us ws : List Value), us.length = 1 → ws.length = ks.length → bindArgs (PySem.W.fnOf x qual (defArgs st) (defBody st) (defScope st) .none kV doc pm an cdv ct) ⟨us, ks.zip ws⟩ = pure (ps.zip (us ++ ws))) :
    KBn K fd ps 1 ks (fun us ws => us ++ ws) (fun vs zs => vs ++ zs) := by
  obtain ⟨oc, od, kV, doc, pm, an, cdv, ct, osl, rfl, lk, hcd⟩ := F.ex
  exact ⟨fun s us ws X l1 l2 => BindsTo.of_eq (h kV doc pm an cdv ct us ws l1 l2), fun r r2 => r.append r2⟩
theorem vals_rev : ∀ {xs : List V} {us : List Value}, Vals xs us → Vals xs.reverse us.reverse
  | _, _, .nil => .nil
  | _, _, .cons (l₁ := xs) (l₂ := us) (a := x) (b := u) r t => by
    rw [List.reverse_cons, List.reverse_cons]
    exact (vals_rev t).append (.cons r .nil)
theorem kb_kwR {x qual : Str} {st : Stmt} {f : Addr} {fd : FuncData} {ps ks : List Str} (F : Fun K x qual st f fd)
    (h : ∀ (kV doc pm : Value) (an : Option Addr) (cdv ct : Value) (us ws : List Value), us.length = 1 → ws.length = ks.length → bindArgs (PySem.W.fnOf x qual (defArgs st) (defBody st) (defScope st) .none kV doc pm an cdv ct) ⟨us, ks.zip ws⟩ = pure (ps.zip (us ++ ws.reverse))) :
    KBn K fd ps 1 ks (fun us ws => us ++ ws.reverse) (fun vs zs => vs ++ zs.reverse) := by
  obtain ⟨oc, od, kV, doc, pm, an, cdv, ct, osl, rfl, lk, hcd⟩ := F.ex
  exact ⟨fun s us ws X l1 l2 => BindsTo.of_eq (h kV doc pm an cdv ct us ws l1 l2), fun r r2 => r.append (vals_rev r2)⟩
/-- a class of errors with one field -/
structure E1 (P : Program) (w : World) (K : PySem.W.Frag) (mg : Str → Option Value) (base : Heap) (nm f0 : Str) (C : Addr) : Prop where
  g : mg nm = some (.ref C)
  O : OexC K C
  X : XfC K C
  no : PySem.W.findIn K (.ref C) f0 = some none
  made : ∃ (fI : Addr) (fd : FuncData), PySem.W.findIn K (.ref C) "__init__" = some (some (.ref fI)) ∧ PySem.W.typeIn K (.ref fI) = some (.type "function") ∧ FnOk P w K mg base CX0 1 fI fd ["self", f0] (spI1 K f0) ∧
    KBn K fd ["self", f0] 2 [] (fun us _ => us) (fun vs _ => vs) ∧ KBn K fd ["self", f0] 1 [f0] (fun us ws => us ++ ws) (fun vs zs => vs ++ zs)
/-- with two -/
structure E2 (P : Program) (w : World) (K : PySem.W.Frag) (mg : Str → Option Value) (base : Heap) (nm f0 f1 : Str) (C : Addr) : Prop where
  g : mg nm = some (.ref C)
  O : OexC K C
  X : XfC K C
  no : PySem.W.findIn K (.ref C) f0 = some none
  no1 : PySem.W.findIn K (.ref C) f1 = some none
  made : ∃ (fI : Addr) (fd : FuncData), PySem.W.findIn K (.ref C) "__init__" = some (some (.ref fI)) ∧ PySem.W.typeIn K (.ref fI) = some (.type "function") ∧ FnOk P w K mg base CX0 1 fI fd ["self", f0, f1] (spI2 K f0 f1) ∧
    KBn K fd ["self", f0, f1] 3 [] (fun us _ => us) (fun vs _ => vs) ∧ KBn K fd ["self", f0, f1] 1 [f1, f0] (fun us ws => us ++ ws.reverse) (fun vs zs => vs ++ zs.reverse)
end
section
variable {X : Cx} {nm f0 f1 : Str} {C : Addr} {p pos kpos kpos' : Pos} {e e' : Expr} {te te' : TE}
theorem pe_e1 (h : E1 X.prog X.w X.K X.mg X.base nm f0 C) (hr : Room 2 X.A) (ha : PE X e te) (hg : Gl X nm := by rfl) (hdb : (nm == ("__debug__" : Str)) = false := by decide)
    (he : starEach (e :: []) X.env = (false, eval e X.env) :: starEach [] X.env := by rfl) : PE X (.Call (.Name nm p) [e] [] pos) (tMkV C 1 0 (spI1 X.K f0) (fun vs _ => vs) (tCons te tNil) tNil) := by
  obtain ⟨fI, fd, iC, tI, F, b, _⟩ := h.made
  exact pe_mkV h.O iC tI F hr b pass0 (by decide) hg h.g (pa_cons ha pa_nil he) hdb he
theorem pe_e1k (h : E1 X.prog X.w X.K X.mg X.base nm f0 C) (hr : Room 2 X.A) (ha : PE X e te) (hg : Gl X nm := by rfl) (hdb : (nm == ("__debug__" : Str)) = false := by decide) :
    PE X (.Call (.Name nm p) [] [⟨some f0, e, kpos⟩] pos) (tMkV C 0 1 (spI1 X.K f0) (fun vs zs => vs ++ zs) tNil (tCons te tNil)) := by
  obtain ⟨fI, fd, iC, tI, F, _, b⟩ := h.made
  exact pe_mkVk h.O iC tI F hr b pass0 hg h.g (pk_cons ha pk_nil) rfl rfl hdb rfl
theorem pe_e2 (h : E2 X.prog X.w X.K X.mg X.base nm f0 f1 C) (hr : Room 2 X.A) (ha : PE X e te) (ha' : PE X e' te') (hg : Gl X nm := by rfl) (hdb : (nm == ("__debug__" : Str)) = false := by decide)
    (he : starEach (e :: [e']) X.env = (false, eval e X.env) :: starEach [e'] X.env := by rfl) (he' : starEach (e' :: []) X.env = (false, eval e' X.env) :: starEach [] X.env := by rfl) (hpl : (backTo pos (starEach [e'] X.env)).any (·.1) = false := by rfl) :
    PE X (.Call (.Name nm p) [e, e'] [] pos) (tMkV C 2 0 (spI2 X.K f0 f1) (fun vs _ => vs) (tCons te (tCons te' tNil)) tNil) := by
  obtain ⟨fI, fd, iC, tI, F, b, _⟩ := h.made
  exact pe_mkV h.O iC tI F hr b pass0 (by decide) hg h.g (pa_cons ha (pa_cons ha' pa_nil he') he) hdb he hpl
/-- C(f1 = e', f0 = e) -/
theorem pe_e2k (h : E2 X.prog X.w X.K X.mg X.base nm f0 f1 C) (hr : Room 2 X.A) (ha' : PE X e' te') (ha : PE X e te) (hg : Gl X nm := by rfl) (hdb : (nm == ("__debug__" : Str)) = false := by decide) :
    PE X (.Call (.Name nm p) [] [⟨some f1, e', kpos'⟩, ⟨some f0, e, kpos⟩] pos) (tMkV C 0 2 (spI2 X.K f0 f1) (fun vs zs => vs ++ zs.reverse) tNil (tCons te' (tCons te tNil))) := by
  obtain ⟨fI, fd, iC, tI, F, _, b⟩ := h.made
  exact pe_mkVk h.O iC tI F hr b pass0 hg h.g (pk_cons ha' (pk_cons ha pk_nil)) rfl rfl hdb rfl
end
end BW
/-! What the written part says of classes of errors, as one look each. -/
namespace BW
open PySem PySem.Spec PyProof.Rows L2
/-- the class at C, its instances' attributes flds being no names of the class -/
def clsB (K : PySem.W.Frag) (C : Addr) (flds : List Str) : Bool :=
  decide (PySem.W.findIn K (.ref C) "__setattr__" = some (some (.builtin "object.__setattr__"))) && (decide (PySem.W.subIn K (.ref C) (.type "BaseException") = some true) && (decide (PySem.W.typeIn K (.ref C) = some (.type "type")) && (PySem.W.keepIn K (.ref C) &&
  (decide (PySem.W.findIn K (.ref C) "__getattribute__" = some (some (.builtin "BaseException.__getattribute__"))) && (decide (PySem.W.findIn K (.ref C) "__getattr__" = some none) && (PySem.W.hasDictIn K C && (decide (PySem.W.findIn K (.ref C) "__class__" = some (some (.builtin "object.__class__"))) &&
  (decide (PySem.W.findIn K (.ref C) "__eq__" = some (some (.builtin "object.__eq__"))) && (decide (PySem.W.findIn K (.ref C) "__ne__" = some (some (.builtin "object.__ne__"))) && (decide (PySem.W.mroIn K C (.type "object") = some true) && flds.all fun f => decide (PySem.W.findIn K (.ref C) f = some none)))))))))))
structure ClsOk (K : PySem.W.Frag) (C : Addr) (flds : List Str) : Prop where
  sa : PySem.W.findIn K (.ref C) "__setattr__" = some (some (.builtin "object.__setattr__"))
  ex : PySem.W.subIn K (.ref C) (.type "BaseException") = some true
  ty : PySem.W.typeIn K (.ref C) = some (.type "type")
  kp : PySem.W.keepIn K (.ref C) = true
  ga : PySem.W.findIn K (.ref C) "__getattribute__" = some (some (.builtin "BaseException.__getattribute__"))
  gg : PySem.W.findIn K (.ref C) "__getattr__" = some none
  hd : PySem.W.hasDictIn K C = true
  ha : PySem.W.findIn K (.ref C) "__class__" = some (some (.builtin "object.__class__"))
  eq : PySem.W.findIn K (.ref C) "__eq__" = some (some (.builtin "object.__eq__"))
  ne : PySem.W.findIn K (.ref C) "__ne__" = some (some (.builtin "object.__ne__"))
  ob : PySem.W.mroIn K C (.type "object") = some true
  no : ∀ f ∈ flds, PySem.W.findIn K (.ref C) f = some none
theorem clsB_ok {K : PySem.W.Frag} {C : Addr} {flds : List Str} (h : clsB K C flds = true) : ClsOk K C flds := by
  unfold clsB at h
  simp only [Bool.and_eq_true, decide_eq_true_eq, List.all_eq_true] at h
  obtain ⟨h1, h2, h3, h4, h5, h6, h7, h8, h9, h10, h11, h12⟩ := h
  exact ⟨h1, h2, h3, h4, h5, h6, h7, h8, h9, h10, h11, h12⟩
section
variable {K : PySem.W.Frag} {C : Addr} {flds : List Str}
theorem ClsOk.oex (h : ClsOk K C flds) {nm q : Str} {N : Addr} {bs bm : List Value} {sn : List Str} {sub : List Value} {ab : Bool} {col : Option Bool} {dd : Option Addr} {k0 k1 k2 k3 k5 : Option Value}
    (o : K.lookup C = some (excClassObj nm q C N bs bm true sn sub ab col dd k0 k1 k2 k3 k5 "ValueError.__new__")) (r : PySem.HandSPX.refsVE bm = true) : OexC K C :=
  ⟨⟨nm, q, N, bs, bm, sn, sub, ab, col, dd, k0, k1, k2, k3, k5, o, r⟩, h.sa, h.ex, h.ty, h.kp⟩
theorem ClsOk.xf (h : ClsOk K C flds) : XfC K C := ⟨h.ga, h.gg, h.ex, h.hd⟩
theorem ClsOk.exc (h : ClsOk K C flds) (hn : PySem.W.specialIn K (.builtin "object.__class__") "__get__" = some (some (.builtin "getset_descriptor.__get__"))) (ht : PySem.W.takesIn K (.builtin "object.__class__") = some true) : ExcC K C := ⟨h.ga, h.gg, h.ex, h.hd, h.ha, hn, ht, h.ob⟩
theorem ClsOk.nes (h : ClsOk K C flds) : ExcNe K C := ⟨h.eq, h.ne, h.ob⟩
end
section
variable {P : Program} {w : World} {K : PySem.W.Frag} {mg : Str → Option Value} {base : Heap}
theorem e1_mk {nm f0 qual : Str} {st : Stmt} {C I : Addr} {fd : FuncData} (g : mg nm = some (.ref C)) (O : OexC K C) (b : ClsOk K C [f0]) (i : PySem.W.findIn K (.ref C) "__init__" = some (some (.ref I))) (t : PySem.W.typeIn K (.ref I) = some (.type "function")) (F : Fun K "__init__" qual st I fd)
    (ok : FnOk P w K mg base CX0 1 I fd ["self", f0] (spI1 K f0))
    (hb : ∀ (kV doc pm : Value) (an : Option Addr) (cdv ct : Value) (us : List Value), us.length = 2 → bindArgs (PySem.W.fnOf "__init__" qual (defArgs st) (defBody st) (defScope st) .none kV doc pm an cdv ct) ⟨us, []⟩ = pure ((["self", f0] : List Str).zip us))
    (hk : ∀ (kV doc pm : Value) (an : Option Addr) (cdv ct : Value) (us ws : List Value), us.length = 1 → ws.length = ([f0] : List Str).length → bindArgs (PySem.W.fnOf "__init__" qual (defArgs st) (defBody st) (defScope st) .none kV doc pm an cdv ct) ⟨us, ([f0] : List Str).zip ws⟩ = pure ((["self", f0] : List Str).zip (us ++ ws))) :
    E1 P w K mg base nm f0 C := ⟨g, O, b.xf, b.no f0 (List.mem_cons_self ..), I, fd, i, t, ok, kb_pos F 2 hb, kb_kw1 F hk⟩
theorem e2_mk {nm f0 f1 qual : Str} {st : Stmt} {C I : Addr} {fd : FuncData} (g : mg nm = some (.ref C)) (O : OexC K C) (b : ClsOk K C [f0, f1]) (i : PySem.W.findIn K (.ref C) "__init__" = some (some (.ref I))) (t : PySem.W.typeIn K (.ref I) = some (.type "function")) (F : Fun K "__init__" qual st I fd)
    (ok : FnOk P w K mg base CX0 1 I fd ["self", f0, f1] (spI2 K f0 f1))
    (hb : ∀ (kV doc pm : Value) (an : Option Addr) (cdv ct : Value) (us : List Value), us.length = 3 → bindArgs (PySem.W.fnOf "__init__" qual (defArgs st) (defBody st) (defScope st) .none kV doc pm an cdv ct) ⟨us, []⟩ = pure ((["self", f0, f1] : List Str).zip us))
    (hk : ∀ (kV doc pm : Value) (an : Option Addr) (cdv ct : Value) (us ws : List Value), us.length = 1 → ws.length = ([f1, f0] : List Str).length → bindArgs (PySem.W.fnOf "__init__" qual (defArgs st) (defBody st) (defScope st) .none kV doc pm an cdv ct) ⟨us, ([f1, f0] : List Str).zip ws⟩ = pure ((["self", f0, f1] : List Str).zip (us ++ ws.reverse))) :
    E2 P w K mg base nm f0 f1 C := ⟨g, O, b.xf, b.no f0 (List.mem_cons_self ..), b.no f1 (List.mem_cons_of_mem _ (List.mem_cons_self ..)), I, fd, i, t, ok, kb_pos F 3 hb, kb_kwR F hk⟩
end
end BW
/-! A comprehension over a new tuple that takes nothing; != of two new empty lists; loops over a list of pairs. -/
namespace BW
open PySem PySem.Spec PyProof.Rows L2
section
variable {te ta tb tl : TE} {tt : TT} {tr : TA} {σ : L2.St} {H H' : Hp} {P P' : V → Hp → Prop} {x v : V} {D : Ends} {tu tz : TS} {K : PySem.W.Frag}
theorem el_lcT0 {Ps : List (V → Hp → Prop)} {j : Nat} {vs : List Nat} (m : ∀ P ∈ Ps, Mon P) (h : Evp tl σ H (TupOf Ps)) (hw : ∀ x, wipe ((wipe σ vs).set j (some x)) vs = wipe σ vs)
    (ht : ∀ (i : Nat) (x : V) (P : V → Hp → Prop) (H1 : Hp), Evl.Ex H H1 → Ps[i]? = some P → P x H1 → Evl.EvT tt ((wipe σ vs).set j (some x)) H1 false) : Evl.EvL (tLc (iTup K tl) (gName j) tt te vs) σ H [] := fun H0 e Q q =>
  h H0 e _ fun v H1 e1 hv => by
    obtain ⟨p, xs, rfl, hp, r⟩ := hv
    refine ⟨p, rfl, ⟨xs, Evl.st_of hp⟩, fun D hD => lc_noneT (K := K) (a := p) (xs := xs) (Evl.st_of hp) hD hw (fun i x hx H2 e2 Q2 q2 => ?_) (fun H2 e2 hd => q D H2 (Evl.fresh_back e1 hD) (e1.trans e2) hd)⟩
    have hlt : i < Ps.length := by
      rw [← r.length]
      exact (List.getElem?_eq_some_iff.mp hx).1
    obtain ⟨y, hy, py⟩ := r.get (List.getElem?_eq_getElem hlt)
    obtain rfl : x = y := Option.some.inj (hx.symm.trans hy)
    exact ht i x _ H2 ((e.trans e1).trans e2) (List.getElem?_eq_getElem hlt) (m _ (List.getElem_mem hlt) _ _ _ e2 py) H2 (Evl.Ex.refl H2) Q2 fun H3 e3 => q2 H3 e3
theorem ev_neNil (ha : Evl.EvL ta σ H []) (hb : Evl.EvL tb σ H []) : Evl.Ev (tOp (rNeD K) ta tb) σ H (.bl false) := Evl.ev_opLL ha hb fun p q H1 hp hq _ => fun H2 e2 Q k =>
  ⟨.list [], .list [], .lst (Evl.sq_of (e2 _ _ hp)) .nil, .lst (Evl.sq_of (e2 _ _ hq)) .nil, rfl, rfl, k H2 (Evl.Ex.refl H2)⟩
/-- over a list that is at hand, its items with words -/
theorem q_forLp {Ps : List (V → Hp → Prop)} {g : TG} (m : ∀ P ∈ Ps, Mon P) (h : Evp tl σ H (LstOf Ps)) (Pv : Nat → L2.St → Hp → Prop) (h0 : ∀ H1, Evl.Ex H H1 → Pv 0 σ H1)
    (hs : ∀ (H1 : Hp), Evl.Ex H H1 → ∀ (i : Nat) (x : V) (P : V → Hp → Prop) (σ' : L2.St) (H' : Hp), Ps[i]? = some P → P x H' → Evl.Ex H1 H' → Pv i σ' H' →
      g x σ' H' fun σ2 H2 => tu { D with nx := fun σ3 H3 => Evl.Ex H1 H3 ∧ Pv (i + 1) σ3 H3, ct := fun σ3 H3 => Evl.Ex H1 H3 ∧ Pv (i + 1) σ3 H3, bk := tz D } σ2 H2) (hd : ∀ (H1 : Hp), Evl.Ex H H1 → ∀ (σ' : L2.St) (H' : Hp), Evl.Ex H1 H' → Pv Ps.length σ' H' → tz D σ' H') :
    tSeq (tFor (iList K tl) g tu) tz D σ H := h H (Evl.Ex.refl H) _ fun v H1 e hv => by
  obtain ⟨p, vs, rfl, hp, r⟩ := hv
  refine ⟨p, rfl, ⟨vs, Evl.sq_of hp⟩, for_list (xs := vs) (D := { D with nx := tz D }) (fun i σ' H' => Evl.Ex H1 H' ∧ Pv i σ' H') ⟨Evl.Ex.refl H1, h0 H1 e⟩ (fun i σ' H' _ q => Evl.ex_l q.1 (Evl.sq_of hp)) (fun i x σ' H' hi q => ?_)
    (fun σ' H' q => hd H1 e σ' H' q.1 (by rw [← r.length]; exact q.2))⟩
  have hlt : i < Ps.length := by
    rw [← r.length]
    exact (List.getElem?_eq_some_iff.mp hi).1
  obtain ⟨y, hy, py⟩ := r.get (List.getElem?_eq_getElem hlt)
  obtain rfl : x = y := Option.some.inj (hi.symm.trans hy)
  exact hs H1 e i x _ σ' H' (List.getElem?_eq_getElem hlt) (m _ (List.getElem_mem hlt) _ _ _ q.1 py) q.1 q.2
theorem evp_call {sp : Sp} {dvs vs : List V} {E : XK} (h : Evl.EvA tr σ H vs) (hs : ∀ H1, Evl.Ex H H1 → ∀ Q : VK, (∀ v H2, Evl.Ex H1 H2 → P v H2 → Q v H2) → ∀ E : XK, sp (vs ++ dvs) H1 Q E) : Evp (tCall sp dvs E tr) σ H P := fun H1 e Q q =>
  h H1 e _ fun H2 e2 => hs H2 (e.trans e2) Q (fun v H3 e3 p => q v H3 (e2.trans e3) p) E
end
end BW
/-! Values of some kind; isinstance by kind; comprehensions over texts; all(); names and cells. -/
namespace BW
open PySem PySem.Spec PyProof.Rows L2

/-! ### kinds -/
/-- a value whose kind is known: None, a bool, an int, a text (not too long), a list, a tuple, a dict -/
inductive Knd (H : Hp) : V → String → Prop where
  | non : Knd H .non "NoneType"
  | bl (b : Bool) : Knd H (.bl b) "bool"
  | int (i : Int) : Knd H (.int i) "int"
  | str {z : Str} (h : z.length ≤ 1000) : Knd H (.str z) "str"
  | lst {a : Addr} {xs : List V} (h : H a = some (.lst xs)) : Knd H (.ref a) "list"
  | tup {a : Addr} {xs : List V} (h : H a = some (.tup xs)) : Knd H (.ref a) "tuple"
  | dict {a : Addr} {kvs : List (Key × V)} (h : H a = some (.dK kvs)) : Knd H (.ref a) "dict"
theorem Knd.mono {H H' : Hp} {v : V} {T : String} (e : Evl.Ex H H') (k : Knd H v T) : Knd H' v T := by
  cases k with
  | non => exact .non
  | bl b => exact .bl b
  | int i => exact .int i
  | str h => exact .str h
  | lst h => exact .lst (e _ _ h)
  | tup h => exact .tup (e _ _ h)
  | dict h => exact .dict (e _ _ h)
theorem Knd.tyx {K : PySem.W.Frag} {H : Hp} {v : V} {T : String} (k : Knd H v T) : TyX K H v (.type T) := by
  cases k with
  | non => exact .base .non
  | bl b => exact .base (.bl b)
  | int i => exact .base (.int i)
  | str h => exact .base (.str _)
  | lst h => exact .base (.lst h)
  | tup h => exact .base (.tup h)
  | dict h => exact .base (.dK h)
section
variable {K : PySem.W.Frag} {σ : L2.St} {H : Hp} {ta tb tc te : TE} {tas : TA} {v x y z : V} {T U : String} {b : Bool} {D : Ends} {tu tz : TS}
theorem ev_isi (hv : Evl.Ev ta σ H v) (k : Knd H v T) (hk : kitB T U = some b) : Evl.Ev (tCB (rIsi K) (tCons ta (tCons (tC (.ty U)) tNil))) σ H (.bl b) :=
  Evl.ev_cb (Evl.ea_cons hv (Evl.ea_cons Evl.ev_c Evl.ea_nil)) fun H1 e _ q => ⟨v, .ty U, .type T, .type U, b, rfl, .ty U, (k.mono e).tyx, kit_ty hk, q H1 (Evl.Ex.refl H1)⟩
/-- isinstance(v, (T1, T2)) -/
theorem ev_isi2 {U1 U2 : String} {b1 b2 : Bool} (hv : Evl.Ev ta σ H v) (k : Knd H v T) (h1 : kitB T U1 = some b1) (h2 : kitB T U2 = some b2) :
    Evl.Ev (tCB (rIsiT K) (tCons ta (tCons (tTup (tCons (tC (.ty U1)) (tCons (tC (.ty U2)) tNil))) tNil))) σ H (.bl (b1 || b2)) := fun H1 e Q q =>
  hv H1 e _ fun H2 e2 => ⟨(by show 2 ≤ sizeLine; decide), fun p np => ⟨v, p, [.ty U1, .ty U2], .type T, [.type U1, .type U2], b1 || b2, rfl, upd_same, .cons (.ty _) (.cons (.ty _) .nil), (k.mono ((e.trans e2).trans (Evl.Ex.new np))).tyx,
    kitAny_cons (kit_ty h1) (fun z => by
      subst z
      exact kitAny_cons (kit_ty h2) (fun z => by
        subst z
        exact kitAny_nil) (fun z => z)) (fun z => by
      subst z
      rfl), q _ (e2.trans (Evl.Ex.new np))⟩⟩
/-- all(bs) -/
theorem ev_all {bs : List Bool} (h : Evl.EvL ta σ H (bs.map V.bl)) : Evl.Ev (tCB (rAll K) (tCons ta tNil)) σ H (.bl (bs.all id)) := fun H1 e Q q =>
  h H1 e _ fun p H2 _ e2 hp => ⟨p, bs, rfl, .inl (.inl hp), q H2 e2⟩
/-- a op b op' c -/
theorem et_chain {r r' : R2} {b b' : Bool} (ha : Evl.Ev ta σ H x) (hb : Evl.Ev tb σ H y) (hc : Evl.Ev tc σ H z) (h1 : Evl.RV r x y H (.bl b)) (h2 : Evl.RV r' y z H (.bl b')) : Evl.EvT (tTest (tChain r r' ta tb tc)) σ H (b && b') := fun H1 e Q q =>
  ha H1 e _ fun H2 e2 => hb H2 (e.trans e2) _ fun H3 e3 => h1 H3 ((e.trans e2).trans e3) _ fun H4 e4 => ⟨b, rfl, by
    cases b with
    | true =>
      show tc σ H4 _
      exact hc H4 (((e.trans e2).trans e3).trans e4) _ fun H5 e5 => h2 H5 ((((e.trans e2).trans e3).trans e4).trans e5) _ fun H6 e6 => ⟨b', rfl, q H6 ((((e2.trans e3).trans e4).trans e5).trans e6)⟩
    | false => exact ⟨false, rfl, q H4 ((e2.trans e3).trans e4)⟩⟩
theorem rv_inSign {c : Nat} {w : Str} : Evl.RV (fun x y H Q => ∃ (c : Nat) (z : Str), x = .str ⟨#[c]⟩ ∧ y = .str z ∧ Q (.bl (decide (c ∈ z.cps.toList))) H) (.str ⟨#[c]⟩) (.str w) H (.bl (decide (c ∈ w.cps.toList))) := fun H1 _ _ q => ⟨c, w, rfl, rfl, q H1 (Evl.Ex.refl H1)⟩
theorem rv_ninSign {c : Nat} {w : Str} : Evl.RV (fun x y H Q => ∃ (c : Nat) (z : Str), x = .str ⟨#[c]⟩ ∧ y = .str z ∧ Q (.bl (!decide (c ∈ z.cps.toList))) H) (.str ⟨#[c]⟩) (.str w) H (.bl (!decide (c ∈ w.cps.toList))) := fun H1 _ _ q => ⟨c, w, rfl, rfl, q H1 (Evl.Ex.refl H1)⟩
/-- [e for c in text if t] -/
theorem el_lcS {w : Str} {tl : TE} {t : TT} {j : Nat} {vs : List Nat} (f : Nat → Bool) (g : Nat → V) (h : Evl.Ev tl σ H (.str w)) (hz : w.length ≤ 40000) (hw : ∀ x, wipe ((wipe σ vs).set j (some x)) vs = wipe σ vs)
    (ht : ∀ (i c : Nat) H1, Evl.Ex H H1 → w.cps[i]? = some c → Evl.EvT t ((wipe σ vs).set j (some (.str ⟨#[c]⟩))) H1 (f i)) (he : ∀ (i c : Nat) H1, Evl.Ex H H1 → w.cps[i]? = some c → f i = true → Evl.Ev te ((wipe σ vs).set j (some (.str ⟨#[c]⟩))) H1 (g i)) :
    Evl.EvL (tLc (iStr tl) (gName j) t te vs) σ H (Evl.given w.cps.size f g) := fun H0 e Q q => h H0 e _ fun H1 e1 => ⟨w, rfl, fun Dl hD =>
  ⟨fun i m H' => m = w.cps.size - i ∧ i ≤ w.cps.size ∧ Evl.Cw H1 f g Dl i H', ⟨w.cps.size, by simp, Nat.zero_le _, hD, Evl.Ex.new hD, upd_same⟩, fun i m H' hp => by
    obtain ⟨rfl, hi, p⟩ := hp
    have hz' : w.cps.size ≤ 40000 := hz
    by_cases hlt : i < w.cps.size
    · refine .inr ⟨hlt, Evl.Cw H1 f g Dl (i + 1), fun H2 p2 => ⟨w.cps.size - (i + 1), by omega, rfl, hlt, p2⟩, fun x H2 hy => ?_⟩
      obtain ⟨rfl, c, hc, rfl⟩ := hy
      exact ⟨hw _, Evl.cw_turn p (by omega) (ht i c H1 (e.trans e1) hc) (fun hf => he i c H1 (e.trans e1) hc hf)⟩
    · have ei : i = w.cps.size := by omega
      subst ei
      exact .inl ⟨Nat.le_refl _, q Dl H' (Evl.fresh_back e1 p.1) (e1.trans p.2.1) p.2.2⟩⟩⟩
end
/-! ### names -/
def letters : Str := "abcdefghijklmnopqrstuvwxyz"
def digits : Str := "0123456789"
def isLet (c : Nat) : Bool := decide (c ∈ letters.cps.toList)
def isDig (c : Nat) : Bool := decide (c ∈ digits.cps.toList)
def nameB (z : Str) : Bool := match z.cps.toList with
  | [] => false
  | c :: r => decide (z.length ≤ 12) && (isLet c && (c :: r).all fun c => isLet c || isDig c)
def isName : V → Bool
  | .str z => nameB z
  | _ => false
theorem given_all {n : Nat} {g : Nat → V} : Evl.given n (fun _ => true) g = (List.range n).map g := by
  unfold Evl.given
  rw [List.filter_eq_self.mpr (fun _ _ => rfl)]
theorem map_getD {α : Type} [Inhabited α] (l : List α) (f : α → Bool) : (List.range l.length).map (fun i => f (l.getD i default)) = l.map f := by
  apply List.ext_getElem
  · simp
  · intro i h1 h2
    simp at h1 h2
    simp [h1]
end BW
/-! list(text); calls by keywords alone; values seen with their items. -/
namespace BW
open PySem PySem.Spec PyProof.Rows L2

/-! ### list(text) -/
def signsV (z : Str) : List V := z.cps.toList.map fun c => V.str ⟨#[c]⟩
theorem vals_at : ∀ {xs : List V} {us : List Value}, xs.length = us.length → (∀ (i : Nat) (x : V) (u : Value), xs[i]? = some x → us[i]? = some u → RelV x u) → Vals xs us
  | [], [], _, _ => .nil
  | [], _ :: _, h, _ => nomatch h
  | _ :: _, [], h, _ => nomatch h
  | _ :: xs, _ :: us, h, k => .cons (k 0 _ _ rfl rfl) (vals_at (Nat.succ.inj h) fun i x u a b => k (i + 1) x u a b)
def rListStr : List V → Hp → VK → Prop := fun xs H Q => ∃ z, xs = [.str z] ∧ z.length ≤ 1000 ∧ ∀ l, H l = none → Q (.ref l) (upd H l (.lst (signsV z)))
theorem cr_listStr {X : Cx} (hc : X.calm = true) : CallR X (.type "list") rListStr := by
  intro pins s σ H xs us Q I r h
  obtain ⟨z, rfl, hz, q⟩ := h
  obtain ⟨u, rfl, t, rfl⟩ := vals1 r
  have h1000 : z.cps.size ≤ 1000 := hz
  have hh : X.A.handled = none := I.ok.hd hc
  have hsz : (signsV z).length = z.cps.size := by
    unfold signsV
    rw [List.length_map, Array.length_toList]
  refine PySem.call_list_str hh z t (fun h' tk acc' c' hk hS hit => ?_) (Evl.sz_of (by omega))
  obtain ⟨h1, h2⟩ := hit
  have rv : Vals (signsV z) acc'.toList := by
    refine vals_at (by rw [hsz, Array.length_toList, h1]) fun i x u hx hu => ?_
    obtain ⟨c, tk', hc', rfl⟩ := h2 i u (by rw [← Array.getElem?_toList]; exact hu)
    unfold signsV at hx
    rw [List.getElem?_map, Array.getElem?_toList, hc'] at hx
    obtain rfl := Option.some.inj hx
    exact ⟨tk', rfl⟩
  refine ⟨.ref s.heap.objs.size, _, I.laid (t' := tk) hk (Nat.le_refl _) (show ObjOk X.prog X.w _ h' _ (.lst (signsV z)) from ⟨Evl.sz_of (by omega), acc'.toList, c', rv, ?_⟩), rfl, q _ (I.hok.fresh (Nat.le_refl _))⟩
  rw [hS]
section
variable {σ : L2.St} {H : Hp} {ta : TE} {z : Str}
theorem el_listStr (ha : Evl.Ev ta σ H (.str z)) (hz : z.length ≤ 1000) : Evl.EvL (tCB rListStr (tCons ta tNil)) σ H (signsV z) := fun H1 e Q q =>
  ha H1 e _ fun H2 e2 => ⟨z, rfl, hz, fun l hl => q l _ (Evl.fresh_back e2 hl) (e2.trans (Evl.Ex.new hl)) upd_same⟩
end

/-! ### f(k = v, ..) -/
section
variable {X : Cx} {CX : CXT} {k n : Nat} {f : Addr} {fd : FuncData} {ps ks : List Str} {sp : Sp} {E : XK} {x : Str} {p pos : Pos} {kws : List Keyword} {tk : TA} {g : List Value → List Value → List Value} {gV : List V → List V → List V}
theorem pe_kwOnly (F : FnOk X.prog X.w X.K X.mg X.base CX k f fd ps sp) (hr : Room k X.A) (hg : Gl X x) (hm : X.mg x = some (.ref f)) (hk : PySem.W.keepIn X.K (.ref f) = true) (hb : KBn X.K fd ps 0 ks g gV) (hx : Passes CX X E) (hkw : PK X kws tk)
    (hall : (backToKw pos (keywordEach kws X.env)).all (·.1.isSome) = true := by rfl) (hks : (backToKw pos (keywordEach kws X.env)).filterMap (·.1) = ks := by rfl) (hdb : (x == ("__debug__" : Str)) = false := by decide)
    (hpl : ((backTo pos (starEach [] X.env)).any (·.1) || (backToKw pos (keywordEach kws X.env)).any (·.1.isNone)) = false := by rfl) :
    PE X (.Call (.Name x p) [] kws pos) (tCallN 0 ks.length sp gV E tNil tk) := by
  refine ⟨fun pins s σ H Q I h => ?_⟩
  refine wpAny_Call_Name_kw (ld_glob I hg hm ?_ hdb)
  refine PySem.W.callWith_KW0 (h₀ := X.base) I.ok.mod.kin hk hall ?_ hpl
  refine thn (hkw.run pos pins s σ H _ I h) fun ws s2 hh => ?_
  obtain ⟨zs, H2, I2, rz, l1, l2, q2⟩ := hh
  refine ⟨I2.kIn, ?_⟩
  rw [hks]
  exact run_fnN (us := []) (vs := []) F hr hb hx I2 .nil rz l1 l2 q2
end
section
variable {K : PySem.W.Frag} {x qual : Str} {st : Stmt} {f : Addr} {fd : FuncData} {ps ks : List Str}
theorem kb0 (F : Fun K x qual st f fd)
    (h : ∀ (kV doc pm : Value) (an : Option Addr) (cdv ct : Value) (ws : List Value), ws.length = ks.length → bindArgs (PySem.W.fnOf x qual (defArgs st) (defBody st) (defScope st) .none kV doc pm an cdv ct) ⟨[], ks.zip ws⟩ = pure (ps.zip ws)) :
    KBn K fd ps 0 ks (fun _ ws => ws) (fun _ zs => zs) := by
  obtain ⟨oc, od, kV, doc, pm, an, cdv, ct, osl, rfl, lk, hcd⟩ := F.ex
  refine ⟨fun s us ws X l1 l2 => ?_, fun _ r2 => r2⟩
  cases us with
  | nil => exact BindsTo.of_eq (h kV doc pm an cdv ct ws l2)
  | cons _ _ => cases l1
theorem kb0R (F : Fun K x qual st f fd)
    (h : ∀ (kV doc pm : Value) (an : Option Addr) (cdv ct : Value) (ws : List Value), ws.length = ks.length → bindArgs (PySem.W.fnOf x qual (defArgs st) (defBody st) (defScope st) .none kV doc pm an cdv ct) ⟨[], ks.zip ws⟩ = pure (ps.zip ws.reverse)) :
    KBn K fd ps 0 ks (fun _ ws => ws.reverse) (fun _ zs => zs.reverse) := by
  obtain ⟨oc, od, kV, doc, pm, an, cdv, ct, osl, rfl, lk, hcd⟩ := F.ex
  refine ⟨fun s us ws X l1 l2 => ?_, fun _ r2 => vals_rev r2⟩
  cases us with
  | nil => exact BindsTo.of_eq (h kV doc pm an cdv ct ws l2)
  | cons _ _ => cases l1
end
section
variable {σ : L2.St} {H : Hp} {t : TA} {zs : List V} {n : Nat} {sp : Sp} {gV : List V → List V → List V} {E : XK} {v : V}
theorem ev_callN (h : Evl.EvA t σ H zs) (hl : zs.length = n) (hs : Evl.SpV sp (gV [] zs) H v) : Evl.Ev (tCallN 0 n sp gV E tNil t) σ H v := fun H1 e Q q =>
  h H1 e _ fun H2 e2 => ⟨rfl, hl, hs H2 (e.trans e2) Q (fun H3 e3 => q H3 (e2.trans e3)) E⟩
end

/-! ### values seen with their items -/
theorem dp_strs {K : PySem.W.Frag} {H : Hp} : ∀ zs : List Str, DpAll K H (zs.map V.str) (zs.map PyData.str)
  | [] => .nil
  | z :: zs => .cons (.str z) (dp_strs zs)
/-- an item of a list: flat, or a list or tuple of texts -/
inductive Elm (H : Hp) : V → Prop where
  | non : Elm H .non
  | bl (b : Bool) : Elm H (.bl b)
  | int (i : Int) : Elm H (.int i)
  | str {z : Str} (h : z.length ≤ 1000) (ok : PySem.PyData.strOk z = true) : Elm H (.str z)
  | lst {a : Addr} {zs : List Str} (h : H a = some (.lst (zs.map V.str))) (ok : ∀ z ∈ zs, PySem.PyData.strOk z = true) : Elm H (.ref a)
  | tup {a : Addr} {zs : List Str} (h : H a = some (.tup (zs.map V.str))) (ok : ∀ z ∈ zs, PySem.PyData.strOk z = true) : Elm H (.ref a)
theorem Elm.mono {H H' : Hp} {v : V} (e : Evl.Ex H H') (k : Elm H v) : Elm H' v := by
  cases k with
  | non => exact .non
  | bl b => exact .bl b
  | int i => exact .int i
  | str h ok => exact .str h ok
  | lst h ok => exact .lst (e _ _ h) ok
  | tup h ok => exact .tup (e _ _ h) ok
theorem Elm.knd {H : Hp} {v : V} (k : Elm H v) : ∃ T, Knd H v T := by
  cases k with
  | non => exact ⟨_, .non⟩
  | bl b => exact ⟨_, .bl b⟩
  | int i => exact ⟨_, .int i⟩
  | str h ok => exact ⟨_, .str h⟩
  | lst h ok => exact ⟨_, .lst h⟩
  | tup h ok => exact ⟨_, .tup h⟩
theorem lay_strs : ∀ {zs : List Str}, (∀ z ∈ zs, PySem.PyData.strOk z = true) → PyData.canLayAll0 (zs.map PyData.str) = true
  | [], _ => rfl
  | z :: zs, h => by
    show (PySem.PyData.strOk z && PyData.canLayAll0 (zs.map PyData.str)) = true
    rw [h z (List.mem_cons_self ..), lay_strs (fun y hy => h y (List.mem_cons_of_mem _ hy))]
    rfl
theorem deep_strs : ∀ zs : List Str, PyData.depthAll (zs.map PyData.str) = 0
  | [] => rfl
  | z :: zs => by
    show max 0 (PyData.depthAll (zs.map PyData.str)) = 0
    rw [deep_strs zs]
    rfl
theorem Elm.dp {K : PySem.W.Frag} {H : Hp} {v : V} (k : Elm H v) : ∃ d, d.canLay0 = true ∧ d.depth ≤ 1 ∧ ∀ H1, Evl.Ex H H1 → Dp K H1 v d := by
  cases k with
  | non => exact ⟨.none, rfl, Nat.zero_le _, fun _ _ => .non⟩
  | bl b => exact ⟨.bool b, rfl, Nat.zero_le _, fun _ _ => .bl b⟩
  | int i => exact ⟨.int i, rfl, Nat.zero_le _, fun _ _ => .int i⟩
  | @str z h ok => exact ⟨.str z, ok, Nat.zero_le _, fun _ _ => .str z⟩
  | @lst a zs h ok => exact ⟨.list (zs.map .str), lay_strs ok, by show PyData.depthAll (zs.map PyData.str) + 1 ≤ 1; rw [deep_strs]; exact Nat.le_refl _, fun H1 e => .lst (Evl.sq_of (e _ _ h)) (dp_strs zs)⟩
  | @tup a zs h ok => exact ⟨.tuple (zs.map .str), lay_strs ok, by show PyData.depthAll (zs.map PyData.str) + 1 ≤ 1; rw [deep_strs]; exact Nat.le_refl _, fun H1 e => .tup (Evl.st_of (e _ _ h)) (dp_strs zs)⟩
theorem elms_dp {K : PySem.W.Frag} {H : Hp} : ∀ {ys : List V}, (∀ y ∈ ys, Elm H y) → ∃ ds, PyData.canLayAll0 ds = true ∧ PyData.depthAll ds ≤ 1 ∧ ∀ H1, Evl.Ex H H1 → DpAll K H1 ys ds
  | [], _ => ⟨[], rfl, Nat.zero_le _, fun _ _ => .nil⟩
  | y :: ys, h => by
    obtain ⟨d, h1, h2, h3⟩ := (h y (List.mem_cons_self ..)).dp (K := K)
    obtain ⟨ds, k1, k2, k3⟩ := elms_dp (K := K) fun z hz => h z (List.mem_cons_of_mem _ hz)
    refine ⟨d :: ds, ?_, ?_, fun H1 e => .cons (h3 H1 e) (k3 H1 e)⟩
    · show (d.canLay0 && PyData.canLayAll0 ds) = true
      rw [h1, k1]
      rfl
    · show max d.depth (PyData.depthAll ds) ≤ 1
      exact Nat.max_le.mpr ⟨h2, k2⟩
theorem shaped_of {ds : List PyData} (h1 : PyData.canLayAll0 ds = true) (h2 : PyData.depthAll ds ≤ 1) : SeqAt.shaped (.list ds) = true := by
  show (PyData.canLayAll0 ds && decide (PyData.depthAll ds + 1 ≤ 64)) = true
  rw [h1, decide_eq_true (by omega)]
  rfl
inductive Seen (H : Hp) : V → Option (List V) → Prop where
  | flat {v : V} {T : String} (k : Knd H v T) (h1 : (T == "list") = false) (h2 : (T == "tuple") = false) : Seen H v none
  | lst {a : Addr} {xs : List V} (h : H a = some (.lst xs)) (hl : xs.length ≤ 20) (hx : ∀ x ∈ xs, Elm H x) : Seen H (.ref a) (some xs)
  | tup {a : Addr} {xs : List V} (h : H a = some (.tup xs)) (hl : xs.length ≤ 20) (hx : ∀ x ∈ xs, Elm H x) : Seen H (.ref a) (some xs)
theorem Seen.mono {H H' : Hp} {v : V} {o : Option (List V)} (e : Evl.Ex H H') (k : Seen H v o) : Seen H' v o := by
  cases k with
  | flat k h1 h2 => exact .flat (k.mono e) h1 h2
  | lst h hl hx => exact .lst (e _ _ h) hl fun x hm => (hx x hm).mono e
  | tup h hl hx => exact .tup (e _ _ h) hl fun x hm => (hx x hm).mono e
theorem Seen.kind {H : Hp} {v : V} {o : Option (List V)} (k : Seen H v o) : ∃ T, Knd H v T ∧ (T == "list" || T == "tuple") = o.isSome := by
  cases k with
  | flat k h1 h2 => exact ⟨_, k, by rw [h1, h2]; rfl⟩
  | lst h hl hx => exact ⟨"list", .lst h, (by decide : ("list" == "list" || "list" == "tuple") = true)⟩
  | tup h hl hx => exact ⟨"tuple", .tup h, (by decide : ("tuple" == "list" || "tuple" == "tuple") = true)⟩
end BW
namespace BW
open PySem PySem.Spec PyProof.Rows L2
/-! ### a list or a tuple, whichever it is -/
def SqX (K : PySem.W.Frag) (H : Hp) (a : Addr) (xs : List V) : Prop := SqL K H a xs ∨ SqT K H a xs
theorem SqX.ex {K : PySem.W.Frag} {H H' : Hp} {a : Addr} {xs : List V} (e : Evl.Ex H H') (h : SqX K H a xs) : SqX K H' a xs := h.elim (fun h => .inl (Evl.ex_l e h)) (fun h => .inr (Evl.ex_t e h))
def rIxX (K : PySem.W.Frag) : R2 := fun x y H Q => rIxL K x y H Q ∨ rIxT K x y H Q
theorem ix_seq {X : Cx} : IxR X (rIxX X.K) := fun value slice pins s σ H x y v u Q I rx ry h hs =>
  h.elim (fun h => ix_list value slice pins s σ H x y v u Q I rx ry h hs) (fun h => ix_tup value slice pins s σ H x y v u Q I rx ry h hs)
def iSeq (K : PySem.W.Frag) (tl : TE) : TI := fun σ H R => tl σ H fun x H1 => ∃ a, x = .ref a ∧ (((∃ xs, SqL K H1 a xs) ∧ R (Itl K a) H1) ∨ ((∃ xs, SqT K H1 a xs) ∧ R (Itt K a) H1))
theorem pi_seq {X : Cx} {tg l : Expr} {tl : TE} (hl : PE X l tl) : PI X tg l (iSeq X.K tl) := by
  constructor
  intro pins s σ H R I h
  refine thn (hl.run pins s σ H _ I h) fun v t hh => ?_
  obtain ⟨x, G, J, rx, a, rfl, hq⟩ := hh
  cases rx
  have one : ∀ b, b ∈ [t.heap.objs.size] → b = t.heap.objs.size := fun b hb => by simpa using hb
  rcases hq with ⟨⟨xs, hq⟩, q⟩ | ⟨⟨xs, hq⟩, q⟩
  · obtain ⟨us, _, place, _⟩ := J.list hq
    refine wpAny_pyIter_list place.isList ⟨_, [t.heap.objs.size], _, _, G, rfl, J.kept (t' := t.toks) fun _ _ z => Heap.get?_push_of_some _ z, turn_list a _, ⟨_, Heap.get?_push_size _ rfl, rfl, rfl⟩, fun b hb => ?_, q⟩
    rw [one b hb]
    exact J.fpOk (Nat.le_refl _) (J.hok.fresh (Nat.le_refl _))
  · obtain ⟨us, _, place, _⟩ := J.tuple hq
    refine wpAny_pyIter_tuple (show t.heap.IsTuple a us.toArray from place) ⟨_, [t.heap.objs.size], _, _, G, rfl, J.kept (t' := t.toks) fun _ _ z => Heap.get?_push_of_some _ z, turn_tuple a _, ⟨_, Heap.get?_push_size _ rfl, rfl, rfl⟩, fun b hb => ?_, q⟩
    rw [one b hb]
    exact J.fpOk (Nat.le_refl _) (J.hok.fresh (Nat.le_refl _))
section
variable {K : PySem.W.Frag} {σ : L2.St} {H : Hp} {tl te : TE} {t : TT} {a : Addr} {xs : List V} {i : Int} {v : V}
theorem rv_ixX (h : SqX K H a xs) (ha : atI xs i = some v) : Evl.RV (rIxX K) (.ref a) (.int i) H v := fun H1 e Q q =>
  h.elim (fun h => .inl (Evl.rv_ixL h ha H1 e Q q)) (fun h => .inr (Evl.rv_ixT h ha H1 e Q q))
/-- [e for x in xs if t] -/
theorem el_lcX {j : Nat} {vs : List Nat} (f : Nat → Bool) (g : Nat → V) (h : Evl.Ev tl σ H (.ref a)) (hx : SqX K H a xs) (hz : xs.length ≤ 40000) (hw : ∀ x, wipe ((wipe σ vs).set j (some x)) vs = wipe σ vs)
    (ht : ∀ (i : Nat) (x : V) H1, Evl.Ex H H1 → xs[i]? = some x → Evl.EvT t ((wipe σ vs).set j (some x)) H1 (f i)) (he : ∀ (i : Nat) (x : V) H1, Evl.Ex H H1 → xs[i]? = some x → f i = true → Evl.Ev te ((wipe σ vs).set j (some x)) H1 (g i)) :
    Evl.EvL (tLc (iSeq K tl) (gName j) t te vs) σ H (Evl.given xs.length f g) := fun H0 e Q q => h H0 e _ fun H1 e1 => ⟨a, rfl, by
  have turn : ∀ (Dl : Addr) (i : Nat) (x : V) (H' : Hp), xs[i]? = some x → Evl.Cw H1 f g Dl i H' → wipe ((wipe σ vs).set j (some x)) vs = wipe σ vs ∧ t ((wipe σ vs).set j (some x)) H' fun b H3 => if b = true then te ((wipe σ vs).set j (some x)) H3 fun y H4 => ∃ acc, H4 Dl = some (.lst acc) ∧ acc.length < sizeLine ∧ Evl.Cw H1 f g Dl (i + 1) (upd H4 Dl (.lst (acc ++ [y]))) else Evl.Cw H1 f g Dl (i + 1) H3 := fun Dl i x H' hi p =>
    ⟨hw x, Evl.cw_turn p (by have := (List.getElem?_eq_some_iff.mp hi).1; omega) (ht i x H1 (e.trans e1) hi) (fun hf => he i x H1 (e.trans e1) hi hf)⟩
  rcases hx with hx | hx
  · exact .inl ⟨⟨xs, Evl.ex_l (e.trans e1) hx⟩, fun Dl hD => lc_list (xs := xs) (Evl.Cw H1 f g Dl) ⟨hD, Evl.Ex.new hD, upd_same⟩ (fun i H' _ p => Evl.ex_l ((e.trans e1).trans p.2.1) hx) (fun i x H' hi p => turn Dl i x H' hi p)
      (fun H' p => q Dl H' (Evl.fresh_back e1 p.1) (e1.trans p.2.1) p.2.2)⟩
  · exact .inr ⟨⟨xs, Evl.ex_t (e.trans e1) hx⟩, fun Dl hD => lc_tup (xs := xs) (Evl.Cw H1 f g Dl) ⟨hD, Evl.Ex.new hD, upd_same⟩ (fun i H' _ p => Evl.ex_t ((e.trans e1).trans p.2.1) hx) (fun i x H' hi p => turn Dl i x H' hi p)
      (fun H' p => q Dl H' (Evl.fresh_back e1 p.1) (e1.trans p.2.1) p.2.2)⟩⟩
/-- len of either -/
theorem ev_lenX (ha : Evl.Ev te σ H (.ref a)) (h : SqX K H a xs) : Evl.Ev (tCB (Evl.rLenS K) (tCons te tNil)) σ H (.int (xs.length : Int)) := fun H1 e Q q =>
  ha H1 e _ fun H2 e2 => ⟨a, xs, rfl, SqX.ex (e.trans e2) h, q H2 e2⟩
/-- [..] != [], [..] == [] -/
theorem ev_neNil2 {tb : TE} {ys : List V} {ds : List PyData} (ha : Evl.EvL te σ H ys) (hb : Evl.EvL tb σ H []) (hd : ∀ H1, Evl.Ex H H1 → DpAll K H1 ys ds) (sh : SeqAt.shaped (.list ds) = true) : Evl.Ev (tOp (rNeD K) te tb) σ H (.bl (!ys.isEmpty)) := Evl.ev_opLL ha hb fun p q H1 hp hq e1 => fun H2 e2 Q k => by
  have hd2 := hd H2 (e1.trans e2)
  refine ⟨.list ds, .list [], .lst (Evl.sq_of (e2 _ _ hp)) hd2, .lst (Evl.sq_of (e2 _ _ hq)) .nil, sh, rfl, ?_⟩
  have e3 : (!PyData.eqv (.list ds) (.list [])) = !ys.isEmpty := by
    cases hd2 <;> rfl
  rw [e3]
  exact k H2 (Evl.Ex.refl H2)
theorem ev_eqNil2 {tb : TE} {ys : List V} {ds : List PyData} (ha : Evl.EvL te σ H ys) (hb : Evl.EvL tb σ H []) (hd : ∀ H1, Evl.Ex H H1 → DpAll K H1 ys ds) (sh : SeqAt.shaped (.list ds) = true) : Evl.Ev (tOp (rEqD K) te tb) σ H (.bl ys.isEmpty) := Evl.ev_opLL ha hb fun p q H1 hp hq e1 => fun H2 e2 Q k => by
  have hd2 := hd H2 (e1.trans e2)
  refine ⟨.list ds, .list [], .lst (Evl.sq_of (e2 _ _ hp)) hd2, .lst (Evl.sq_of (e2 _ _ hq)) .nil, sh, rfl, ?_⟩
  have e3 : PyData.eqv (.list ds) (.list []) = ys.isEmpty := by
    cases hd2 <;> rfl
  rw [e3]
  exact k H2 (Evl.Ex.refl H2)
end
theorem Seen.seq {K : PySem.W.Frag} {H : Hp} {v : V} {xs : List V} (k : Seen H v (some xs)) : ∃ a, v = .ref a ∧ SqX K H a xs ∧ xs.length ≤ 20 ∧ ∀ x ∈ xs, Elm H x := by
  cases k with
  | lst h hl hx => exact ⟨_, rfl, .inl (Evl.sq_of h), hl, hx⟩
  | tup h hl hx => exact ⟨_, rfl, .inr (Evl.st_of h), hl, hx⟩
theorem given_mem {n : Nat} {f : Nat → Bool} {g : Nat → V} {y : V} (h : y ∈ Evl.given n f g) : ∃ i, i < n ∧ f i = true ∧ g i = y := by
  unfold Evl.given at h
  obtain ⟨i, hi, e⟩ := List.mem_map.mp h
  obtain ⟨h1, h2⟩ := List.mem_filter.mp hi
  exact ⟨i, List.mem_range.mp h1, h2, e⟩
/-- nothing given: no turn gives -/
theorem given_empty (n : Nat) (f : Nat → Bool) (g : Nat → V) : (Evl.given n f g).isEmpty = (List.range n).all fun i => !f i := by
  unfold Evl.given
  rw [List.isEmpty_map]
  induction List.range n with
  | nil => rfl
  | cons x l ih =>
    rw [List.filter_cons, List.all_cons]
    cases hf : f x with
    | true => rfl
    | false =>
      rw [if_neg (by simp), ih]
      rfl
section
variable {K : PySem.W.Frag} {σ : L2.St} {H : Hp} {te tb : TE} {ys : List V}
theorem ev_neE (ha : Evl.EvL te σ H ys) (hy : ∀ y ∈ ys, Elm H y) : Evl.Ev (tOp (rNeD K) te (tLst tNil)) σ H (.bl (!ys.isEmpty)) := by
  obtain ⟨ds, h1, h2, h3⟩ := elms_dp (K := K) hy
  exact ev_neNil2 ha (Evl.el_lst Evl.ea_nil (Nat.zero_le _)) h3 (shaped_of h1 h2)
theorem ev_eqE (ha : Evl.EvL te σ H ys) (hy : ∀ y ∈ ys, Elm H y) : Evl.Ev (tOp (rEqD K) te (tLst tNil)) σ H (.bl ys.isEmpty) := by
  obtain ⟨ds, h1, h2, h3⟩ := elms_dp (K := K) hy
  exact ev_eqNil2 ha (Evl.el_lst Evl.ea_nil (Nat.zero_le _)) h3 (shaped_of h1 h2)
end
end BW
/-! Defs of the text as callees; comprehensions over ranges with any ends. -/
namespace BW
open PySem PySem.Spec PyProof.Rows L2
/-- a def of the text that raises nothing -/
structure Df (P : Program) (w : World) (K : PySem.W.Frag) (mg : Str → Option Value) (base : Heap) (k : Nat) (nm : Str) (ps : List Str) (sp : Sp) (f : Addr) (fd : FuncData) : Prop where
  ok : FnOk P w K mg base CX0 k f fd ps sp
  b : Binds K fd ps []
  g : mg nm = some (.ref f)
  kp : PySem.W.keepIn K (.ref f) = true
section
variable {X : Cx} {k : Nat} {nm : Str} {ps ks : List Str} {sp : Sp} {f : Addr} {fd : FuncData} {e : Expr} {es : List Expr} {kws : List Keyword} {t : TA} {p pos : Pos} {g : List Value → List Value → List Value} {gV : List V → List V → List V}
theorem pe_df (D : Df X.prog X.w X.K X.mg X.base k nm ps sp f fd) (hr : Room k X.A) (ha : PA X (e :: es) t) (hg : Gl X nm := by rfl) (hdb : (nm == ("__debug__" : Str)) = false := by decide)
    (he : starEach (e :: es) X.env = (false, eval e X.env) :: starEach es X.env := by rfl) (hpl : (backTo pos (starEach es X.env)).any (·.1) = false := by rfl) : PE X (.Call (.Name nm p) (e :: es) [] pos) (tCall sp [] E0 t) :=
  pe_call D.ok hr hg D.g D.kp D.b .nil pass0 ha hdb he hpl
theorem pe_dfk (D : Df X.prog X.w X.K X.mg X.base k nm ps sp f fd) (hb : KBn X.K fd ps 0 ks g gV) (hr : Room k X.A) (hkw : PK X kws t) (hg : Gl X nm := by rfl)
    (hall : (backToKw pos (keywordEach kws X.env)).all (·.1.isSome) = true := by rfl) (hks : (backToKw pos (keywordEach kws X.env)).filterMap (·.1) = ks := by rfl) (hdb : (nm == ("__debug__" : Str)) = false := by decide)
    (hpl : ((backTo pos (starEach [] X.env)).any (·.1) || (backToKw pos (keywordEach kws X.env)).any (·.1.isNone)) = false := by rfl) :
    PE X (.Call (.Name nm p) [] kws pos) (tCallN 0 ks.length sp gV E0 tNil t) :=
  pe_kwOnly D.ok hr hg D.g D.kp hb pass0 hkw hall hks hdb hpl
end
section
variable {K : PySem.W.Frag} {σ : L2.St} {H : Hp} {te : TE} {t : TT} {ta : TA} {j : Nat} {vs : List Nat}
theorem el_lcRg {n : Int} (f : Nat → Bool) (g : Nat → V) (h : Evl.EvA ta σ H [.int n]) (hn : -100000 ≤ n ∧ n ≤ 40000) (hw : ∀ x, wipe ((wipe σ vs).set j (some x)) vs = wipe σ vs)
    (ht : ∀ (i : Nat) H1, Evl.Ex H H1 → (i : Int) < n → Evl.EvT t ((wipe σ vs).set j (some (.int (i : Int)))) H1 (f i)) (he : ∀ (i : Nat) H1, Evl.Ex H H1 → (i : Int) < n → f i = true → Evl.Ev te ((wipe σ vs).set j (some (.int (i : Int)))) H1 (g i)) :
    Evl.EvL (tLc (iRng1 ta) (gName j) t te vs) σ H (Evl.given n.toNat f g) := fun H0 e Q q => h H0 e _ fun H1 e1 => ⟨n, rfl, by omega, by omega, fun Dl hD =>
  lc_range (lo := 0) (n := n.toNat) (Evl.Cw H1 f g Dl) ⟨hD, Evl.Ex.new hD, upd_same⟩ (fun i H' hi p => ⟨hw _, by
    have z : (0 : Int) + (i : Int) = (i : Int) := Int.zero_add _
    rw [z]
    exact Evl.cw_turn p (by omega) (ht i H1 (e.trans e1) (by omega)) (fun hf => he i H1 (e.trans e1) (by omega) hf)⟩) (fun H' p => q Dl H' (Evl.fresh_back e1 p.1) (e1.trans p.2.1) p.2.2)⟩
theorem el_lcRg2 {lo n : Int} (f : Nat → Bool) (g : Nat → V) (h : Evl.EvA ta σ H [.int lo, .int n]) (hn : 0 ≤ lo ∧ lo ≤ 100000 ∧ -100000 ≤ n ∧ n ≤ 40000) (hw : ∀ x, wipe ((wipe σ vs).set j (some x)) vs = wipe σ vs)
    (ht : ∀ (i : Nat) H1, Evl.Ex H H1 → lo + (i : Int) < n → Evl.EvT t ((wipe σ vs).set j (some (.int (lo + (i : Int))))) H1 (f i)) (he : ∀ (i : Nat) H1, Evl.Ex H H1 → lo + (i : Int) < n → f i = true → Evl.Ev te ((wipe σ vs).set j (some (.int (lo + (i : Int))))) H1 (g i)) :
    Evl.EvL (tLc (iRng2 ta) (gName j) t te vs) σ H (Evl.given (n - lo).toNat f g) := fun H0 e Q q => h H0 e _ fun H1 e1 => ⟨lo, n, rfl, ⟨by omega, by omega, by omega, by omega⟩, fun Dl hD =>
  lc_range (lo := lo) (n := (n - lo).toNat) (Evl.Cw H1 f g Dl) ⟨hD, Evl.Ex.new hD, upd_same⟩ (fun i H' hi p => ⟨hw _, Evl.cw_turn p (by omega) (ht i H1 (e.trans e1) (by omega)) (fun hf => he i H1 (e.trans e1) (by omega) hf)⟩)
    (fun H' p => q Dl H' (Evl.fresh_back e1 p.1) (e1.trans p.2.1) p.2.2)⟩
/-- every turn gives a truth -/
theorem given_bls (n : Nat) (p : Nat → Bool) : Evl.given n (fun _ => true) (fun i => V.bl (p i)) = ((List.range n).map p).map V.bl := by
  rw [given_all, List.map_map]
  rfl
theorem all_range_get (xs : List V) (p : V → Bool) : ((List.range xs.length).map fun i => p (xs.getD i .non)).all id = xs.all p := by
  rw [List.all_map]
  induction xs with
  | nil => rfl
  | cons x xs ih =>
    rw [List.length_cons, List.range_succ_eq_map, List.all_cons, List.all_map, List.all_cons]
    congr 1
end
end BW
/-! Evaluations that draw: all but the pen's own object stays; how many draws; a word about the value over the rest of the heap. -/
namespace BW
open PySem PySem.Spec PyProof.Rows L2
/-- the heap without what stands at p -/
def hide (p : Addr) (H : Hp) : Hp := fun b => if b = p then none else H b
theorem hide_at {p a : Addr} {H : Hp} {o : HO} (n : a ≠ p) (h : H a = some o) : hide p H a = some o := by
  unfold hide
  rw [if_neg n]
  exact h
theorem hide_sub (p : Addr) (H : Hp) : Evl.Ex (hide p H) H := fun b o h => by
  unfold hide at h
  split at h
  · cases h
  · exact h
theorem hide_kp {p : Addr} {H H' : Hp} (k : Kp p H H') : Evl.Ex (hide p H) (hide p H') := fun b o h => by
  unfold hide at h
  split at h
  · cases h
  · rename_i n
    exact hide_at n (k b o n h)
theorem hide_ne {p a : Addr} {H : Hp} {o : HO} (h : hide p H a = some o) : a ≠ p := fun e => by
  unfold hide at h
  rw [if_pos e] at h
  cases h
/-- the pen at p, its cells at L: n of them read at most -/
def PenL (H : Hp) (p L : Addr) (n : Nat) : Prop := ∃ (ns : List Int) (k : Nat) (r : Int), H p = some (.lst [.ref L, .int (k : Int), .int r]) ∧ H L = some (.lst (ns.map V.int)) ∧ p ≠ L ∧ ns.length ≤ 100 ∧ k ≤ n ∧ 0 ≤ r
theorem PenL.pen {H : Hp} {p L : Addr} {n : Nat} (h : PenL H p L n) : Pen H p n := by
  obtain ⟨ns, k, r, h⟩ := h
  exact ⟨L, ns, k, r, h⟩
theorem PenL.same {p L : Addr} {n : Nat} {H H' : Hp} (h : PenL H p L n) (e : Same H H') : PenL H' p L n := by
  obtain ⟨ns, k, r, h1, h2, h3⟩ := h
  exact ⟨ns, k, r, e _ _ h1, e _ _ h2, h3⟩
theorem PenL.up {H : Hp} {p L : Addr} {n m : Nat} (h : PenL H p L n) (e : n ≤ m) : PenL H p L m := by
  obtain ⟨ns, k, r, h1, h2, h3, h4, h5, h6⟩ := h
  exact ⟨ns, k, r, h1, h2, h3, h4, Nat.le_trans h5 e, h6⟩
theorem PenL.ne {H : Hp} {p L a : Addr} {n : Nat} (h : PenL H p L n) (e : H a = none) : a ≠ p ∧ a ≠ L := by
  obtain ⟨ns, k, r, h1, h2, _⟩ := h
  exact ⟨(ne_of_none h1 e).symm, (ne_of_none h2 e).symm⟩
/-- the pen, an object written that is not its own -/
theorem PenL.over {H : Hp} {p L a : Addr} {o : HO} {n : Nat} (h : PenL H p L n) (h1 : a ≠ p ∧ a ≠ L) : PenL (upd H a o) p L n := by
  obtain ⟨ns, k, r, e1, e2, e3⟩ := h
  exact ⟨ns, k, r, by rw [upd_ne h1.1.symm]; exact e1, by rw [upd_ne h1.2.symm]; exact e2, e3⟩
abbrev Wd := V → Hp → Prop
def Evd (p L : Addr) (te : TE) (σ : L2.St) (H : Hp) (m : Nat) (P : Wd) : Prop := ∀ H1, Kp p H H1 → ∀ n, PenL H1 p L n → n + m ≤ 100000 → ∀ Q : VK, (∀ v H2, Kp p H1 H2 → PenL H2 p L (n + m) → P v (hide p H2) → Q v H2) → te σ H1 Q
def Eda (p L : Addr) (tr : TA) (σ : L2.St) (H : Hp) (m N : Nat) (P : Wd) : Prop := ∀ H1, Kp p H H1 → ∀ n, PenL H1 p L n → n + m ≤ 100000 → ∀ Q : List V → Hp → Prop, (∀ vs H2, Kp p H1 H2 → PenL H2 p L (n + m) → vs.length = N → (∀ v ∈ vs, P v (hide p H2)) → Q vs H2) → tr σ H1 Q
section
variable {p L : Addr} {te ta tb : TE} {tr : TA} {σ : L2.St} {H H' : Hp} {m m' m2 N : Nat} {P P' P2 : Wd} {v : V} {K : PySem.W.Frag}
theorem Evd.mono (h : Evd p L te σ H m P) (k : Kp p H H') : Evd p L te σ H' m P := fun H1 k1 => h H1 (k.trans k1)
theorem Evd.up (h : Evd p L te σ H m P) (e : m ≤ m') : Evd p L te σ H m' P := fun H1 k n pn hn Q q => h H1 k n pn (by omega) Q fun v H2 k2 p2 pv => q v H2 k2 (p2.up (by omega)) pv
theorem Evd.imp (h : Evd p L te σ H m P) (e : ∀ v G, P v G → P' v G) : Evd p L te σ H m P' := fun H1 k n pn hn Q q => h H1 k n pn hn Q fun v H2 k2 p2 pv => q v H2 k2 p2 (e v _ pv)
theorem ed_of (hv : ∀ H1, Kp p H H1 → Evl.Ev te σ H1 v) (hp : ∀ G, P v G) : Evd p L te σ H 0 P := fun H1 k n pn hn Q q => hv H1 k H1 (Evl.Ex.refl H1) Q fun H2 e => q v H2 (Same.kp e) (pn.same e) (hp _)
theorem ed_c (hp : ∀ G, P v G) : Evd p L (tC v) σ H 0 P := ed_of (fun _ _ => Evl.ev_c) hp
theorem ed_op {r : R2} {Pz : Wd} (mP : Mon P) (ha : Evd p L ta σ H m P) (hb : Evd p L tb σ H m' P')
    (hr : ∀ x y H1, Kp p H H1 → P x (hide p H1) → P' y (hide p H1) → ∃ z, Evl.RV r x y H1 z ∧ ∀ G, Pz z G) : Evd p L (tOp r ta tb) σ H (m + m') Pz := fun H1 k n pn hn Q q =>
  ha H1 k n pn (by omega) _ fun x H2 k2 p2 px => hb H2 (k.trans k2) (n + m) p2 (by omega) _ fun y H3 k3 p3 py => by
    obtain ⟨z, hz, pz⟩ := hr x y H3 ((k.trans k2).trans k3) (mP _ _ _ (hide_kp k3) px) py
    exact hz H3 (Evl.Ex.refl H3) Q fun H4 e4 => q z H4 ((k2.trans k3).trans (Same.kp e4)) (by rw [← Nat.add_assoc]; exact p3.same e4) (pz _)
theorem eda_nil : Eda p L tNil σ H 0 0 P := fun H1 k n pn hn Q q => q [] H1 (Kp.refl p H1) pn rfl fun _ h => nomatch h
theorem eda_cons (mP : Mon P) (h : Evd p L te σ H m P) (hr : Eda p L tr σ H m' N P) : Eda p L (tCons te tr) σ H (m + m') (N + 1) P := fun H1 k n pn hn Q q =>
  h H1 k n pn (by omega) _ fun v H2 k2 p2 pv => hr H2 (k.trans k2) (n + m) p2 (by omega) _ fun vs H3 k3 p3 l pvs => q _ H3 (k2.trans k3) (by rw [← Nat.add_assoc]; exact p3) (by rw [List.length_cons, l]) fun x hx => by
    rcases List.mem_cons.mp hx with rfl | hx
    · exact mP _ _ _ (hide_kp k3) pv
    · exact pvs x hx
/-- a number below j -/
def Lt (j : Int) : Wd := fun v _ => ∃ r, v = .int r ∧ 0 ≤ r ∧ r < j
theorem mon_lt {j : Int} : Mon (Lt j) := fun _ _ _ _ h => h
/-- [a, b, ..][draw] -/
theorem ed_pick (mP : Mon P) (hN : N ≤ 100000) (h : Eda p L tr σ H m N P) (hb : Evd p L tb σ H m' (Lt (N : Int))) : Evd p L (tOp (rIxL K) (tLst tr) tb) σ H (m + m') P := fun H1 k n pn hn Q q =>
  h H1 k n pn (by omega) _ fun vs H2 k2 p2 l pvs => ⟨by rw [l]; exact Evl.sz_of hN, fun a na => by
    have ka : Kp p H2 (upd H2 a (.lst vs)) := Same.kp (same_new na)
    refine hb _ ((k.trans k2).trans ka) (n + m) (p2.same (same_new na)) (by omega) _ fun y H4 k4 p4 py => ?_
    obtain ⟨r, rfl, r0, r1⟩ := py
    have hl : H4 a = some (.lst vs) := k4 a _ (p2.ne na).1 upd_same
    have hi : r.toNat < vs.length := by omega
    have er : r = ((r.toNat : Nat) : Int) := by omega
    refine ⟨a, vs, r, vs[r.toNat], rfl, rfl, Evl.sq_of hl, ?_, q _ H4 ((k2.trans ka).trans k4) (by rw [← Nat.add_assoc]; exact p4) (mP _ _ _ (hide_kp (ka.trans k4)) (pvs _ (List.getElem_mem hi)))⟩
    have hg : vs[r.toNat]? = some vs[r.toNat] := List.getElem?_eq_getElem hi
    have z := atI_nat (xs := vs) (j := r.toNat) hg
    rw [← er] at z
    exact z⟩
/-- a conditional expression -/
theorem ed_if {t : TT} {b : Bool} (h : ∀ H1, Kp p H H1 → Evl.EvT t σ H1 b) (h1 : b = true → Evd p L ta σ H m P) (h2 : b = false → Evd p L tb σ H m P) : Evd p L (tIf t ta tb) σ H m P := fun H1 k n pn hn Q q =>
  h H1 k H1 (Evl.Ex.refl H1) _ fun H2 e => by
    have fin : ∀ v H3, Kp p H2 H3 → PenL H3 p L (n + m) → P v (hide p H3) → Q v H3 := fun v H3 k3 p3 pv => q v H3 ((Same.kp e).trans k3) p3 pv
    cases b with
    | true => exact h1 rfl H2 (k.trans (Same.kp e)) n (pn.same e) hn Q fin
    | false => exact h2 rfl H2 (k.trans (Same.kp e)) n (pn.same e) hn Q fin
/-- .. whose test draws -/
theorem ed_ifD {te : TE} {m3 : Nat} {b : V → Bool} (h : Evd p L te σ H m (fun v _ => ∃ b, v = .bl b)) (h1 : Evd p L ta σ H m3 P) (h2 : Evd p L tb σ H m3 P) : Evd p L (tIf (tTest te) ta tb) σ H (m + m3) P := fun H1 k n pn hn Q q =>
  h H1 k n pn (by omega) _ fun v H2 k2 p2 hv => by
    obtain ⟨b, rfl⟩ := hv
    refine ⟨b, rfl, ?_⟩
    have fin : ∀ v H3, Kp p H2 H3 → PenL H3 p L (n + m + m3) → P v (hide p H3) → Q v H3 := fun v H3 k3 p3 pv => q v H3 (k2.trans k3) (by rw [← Nat.add_assoc]; exact p3) pv
    cases b with
    | true => exact h1 H2 (k.trans k2) (n + m) p2 (by omega) Q fin
    | false => exact h2 H2 (k.trans k2) (n + m) p2 (by omega) Q fin
/-- a new list of items of which Pe holds -/
def LstE (M : Nat) (Pe : V → Prop) : Wd := fun v G => ∃ a xs, v = .ref a ∧ G a = some (.lst xs) ∧ xs.length ≤ M ∧ ∀ x ∈ xs, Pe x
theorem mon_lstE {M : Nat} {Pe : V → Prop} : Mon (LstE M Pe) := fun v G G' e h => by
  obtain ⟨a, xs, rfl, h, l⟩ := h
  exact ⟨a, xs, rfl, e _ _ h, l⟩
/-- [e for x in range(n)], e draws -/
theorem ed_lcR {tn : TE} {j M d : Nat} {vs : List Nat} {Pe : V → Prop} (hM : M ≤ 1000) (hn : Evd p L tn σ H m (fun v _ => ∃ i : Int, v = .int i ∧ 0 ≤ i ∧ i ≤ (M : Int))) (hw : ∀ x, wipe ((wipe σ vs).set j (some x)) vs = wipe σ vs)
    (he : ∀ (x : V), Evd p L te ((wipe σ vs).set j (some x)) H d (fun v _ => Pe v)) : Evd p L (tLc (iRng1 (tCons tn tNil)) (gName j) tYes te vs) σ H (m + M * d) (LstE M Pe) := fun H1 k n pn hle Q q =>
  hn H1 k n pn (by omega) _ fun v H2 k2 p2 hv => by
    obtain ⟨i, rfl, i0, i1⟩ := hv
    refine ⟨i, rfl, by omega, by omega, fun Dl hD => ?_⟩
    have neD := p2.ne hD
    refine lc_range (lo := 0) (n := i.toNat) (fun t G => ∃ acc : List V, G Dl = some (.lst acc) ∧ acc.length = t ∧ (∀ x ∈ acc, Pe x) ∧ Kp p H2 G ∧ PenL G p L (n + m + t * d) ∧ t ≤ M) ⟨[], upd_same, rfl, (fun _ h => nomatch h), Same.kp (same_new hD), (by rw [Nat.zero_mul]; exact p2.same (same_new hD)), Nat.zero_le _⟩ (fun t G ht hp => ⟨hw _, ?_⟩) (fun G hp => ?_)
    · obtain ⟨acc, h1, h2, h3, h4, h5, h6⟩ := hp
      have hb : t * d ≤ (M - 1) * d := Nat.mul_le_mul_right d (by omega)
      have hb2 : (M - 1) * d + d = M * d := by
        have e : M = (M - 1) + 1 := by omega
        conv => rhs; rw [e, Nat.add_mul, Nat.one_mul]
      dsimp only [tYes]
      rw [if_pos rfl]
      refine he _ G ((k.trans k2).trans h4) (n + m + t * d) h5 (by omega) _ fun y G2 k3 p3 py => ⟨acc, k3 _ _ neD.1 h1, ?_, acc ++ [y], upd_same, by rw [List.length_append, h2]; rfl, fun x hx => ?_, ?_, ?_, by omega⟩
      · exact small_of (by omega)
      · rcases List.mem_append.mp hx with hx | hx
        · exact h3 x hx
        · rw [List.mem_singleton.mp hx]
          exact py
      · exact fun b o nb hb => by
          rw [upd_ne (ne_of_none hb hD)]
          exact (h4.trans k3) b o nb hb
      · have e2 : n + m + (t + 1) * d = n + m + t * d + d := by rw [Nat.add_mul, Nat.one_mul]; omega
        rw [e2]
        exact p3.over neD
    · obtain ⟨acc, h1, h2, h3, h4, h5, h6⟩ := hp
      have hb : i.toNat * d ≤ M * d := Nat.mul_le_mul_right d (by omega)
      exact q _ G (k2.trans h4) (h5.up (by omega)) ⟨Dl, acc, rfl, hide_at neD.1 h1, by omega, h3⟩
end
end BW
namespace K01
open PySem PySem.Spec PyProof.Rows L2 BW
def topS (i : Nat) : Stmt := PySem.Challenge.pw_borderwords_k01_checks_of_any_value.main.body.getD i (.Pass ⟨0, 0, 0, 0⟩)
abbrev sStore : Stmt := topS 21
abbrev sNext : Stmt := topS 22
section
variable {P : Program} {w : World} {K : PySem.W.Frag} {mg : Str → Option Value} {base : Heap}
theorem scSt : FnScope ["_law_script", "_law_cell"] ["_law_script"] (defScope sStore) := ⟨rfl, rfl, rfl, by decide +kernel, rfl, by decide +kernel, by decide +kernel⟩
def spStore (K : PySem.W.Frag) : Sp := fun vs H Q _ => ∃ (a : Addr) (ns : List Int), vs = [.ref a] ∧ SqL K H a (ns.map V.int) ∧ ns.length ≤ 63 ∧ ∀ p L H', Same H H' → H p = none → PenL H' p L 0 → Q (.ref p) H'
theorem ok_store {f : Addr} {fd : FuncData} {k : Nat} (F : Fun K "_law_store" "_law_store" sStore f fd) (mi : mg "int" = none) : FnOk P w K mg base CX0 (k + 1) f fd ["_law_script"] (spStore K) := by
  refine F.ok scSt (fun vs H Q E h => ?_) (fun cdv A outer s H vs Q E hr h => ?_)
  · obtain ⟨a, ns, rfl, _⟩ := h
    rfl
  · obtain ⟨a, ns, rfl, hS, hlen, q⟩ := h
    refine ⟨_, pss_one (ps_ret (pe_lst (pa_cons (pe_lc (own := [("_law_cell", 1)]) (g := gName 1) (tt := tYes) rfl scSt.nd (pi_list (pe_slice sl_list (pv 0) po_none (po_some pe_int)))
      (blkOk_by (N := ["_law_script", "_law_cell"]) (sc := defScope sStore) (by decide +kernel)) (fun _ _ _ _ _ => pg_name (i := 1) scSt.nd rfl (Or.inl rfl)) (fun _ _ _ _ _ => pts_nil)
      (fun _ _ _ _ _ => pe_callTy call_int1 (by rfl) mi (by decide +kernel) (pa_cons (pv 1) pa_nil))) (pa_cons pe_int (pa_cons pe_int pa_nil))))), ?_⟩
    obtain ⟨ms, em, lm⟩ := cut_int ns 60
    refine ⟨.ref a, rfl, 60, rfl, a, ns.map V.int, rfl, hS, fun c nc => ⟨c, rfl, ⟨_, .inl (.inl upd_same)⟩, fun D hD => ?_⟩⟩
    rw [em] at hD ⊢
    have s1 : Same H (upd H c (.lst (ms.map V.int))) := same_new nc
    refine lc_mapL (K := K) (ys := ms.map V.int) (i0 := 1) (vs := [1]) (.inl (.inl upd_same)) hD rfl (by rw [List.length_map]; omega) (fun _ => rfl) (fun i x y hx hy H2 e Q2 q2 => ?_) (fun H2 e hd => ?_)
    · obtain rfl : x = y := Option.some.inj (hx.symm.trans hy)
      rw [List.getElem?_map] at hx
      cases hm : ms[i]? with
      | none =>
        rw [hm] at hx
        cases hx
      | some z =>
        rw [hm] at hx
        obtain rfl : V.int z = x := Option.some.inj hx
        exact ⟨_, rfl, .inl ⟨z, rfl, q2 H2 (Same.refl H2)⟩⟩
    · refine ⟨by show 3 ≤ sizeLine; decide, fun p np => ?_⟩
      refine q p D _ ((s1.trans e).trans (same_new np)) (s1.free (e.free np)) ⟨ms, 0, 0, upd_same, ?_, ?_, by omega, Nat.le_refl 0, Int.le_refl 0⟩
      · rw [upd_ne (ne_of_none hd np)]
        exact hd
      · exact (ne_of_none hd np).symm
theorem dp_ints (K : PySem.W.Frag) (H : Hp) : ∀ ns : List Int, DpAll K H (ns.map V.int) (ns.map PyData.int)
  | [] => .nil
  | n :: ns => .cons (.int n) (dp_ints K H ns)
theorem at_mod (x : Int) (t : List Int) (j : Nat) : ∃ c : Int, atI ((x :: t).map V.int) ((j : Int) % (((x :: t).map V.int).length : Int)) = some (.int c) := by
  have hl : j % (x :: t).length < (x :: t).length := Nat.mod_lt _ (Nat.succ_pos _)
  refine ⟨(x :: t)[j % (x :: t).length], ?_⟩
  rw [List.length_map, ← Int.natCast_emod]
  exact atI_nat (by rw [List.getElem?_map, List.getElem?_eq_getElem hl]; rfl)
theorem mix_bound (a : Int) (j : Nat) (h0 : 0 ≤ a) (h1 : a < 2147483647) (hj : j ≤ 100000) : (a * (2 * (j : Int) + 1777) + 60209 * (j : Int) * (j : Int) + 78059).natAbs < 2 ^ 64 := by
  have e1 : a * (2 * (j : Int) + 1777) ≤ 2147483647 * 201777 := Int.mul_le_mul (by omega) (by omega) (by omega) (by omega)
  have e2 : 0 ≤ a * (2 * (j : Int) + 1777) := Int.mul_nonneg h0 (by omega)
  have e3 : 60209 * (j : Int) * (j : Int) ≤ 60209 * 100000 * 100000 := Int.mul_le_mul (by omega) (by omega) (by omega) (by omega)
  have e4 : 0 ≤ 60209 * (j : Int) * (j : Int) := Int.mul_nonneg (by omega) (by omega)
  omega
theorem scNx : FnScope ["_law_store_here", "_law_many", "_law_rest", "_law_at", "_law_cell", "_law_mixed"] ["_law_store_here", "_law_many"] (defScope sNext) := ⟨rfl, rfl, rfl, by decide +kernel, rfl, by decide +kernel, by decide +kernel⟩
def spNext : Sp := fun vs H Q _ => ∃ (p L : Addr) (n : Nat) (m : Int), vs = [.ref p, .int m] ∧ PenL H p L n ∧ n ≤ 100000 ∧ 0 < m ∧ m.natAbs < 2 ^ 200 ∧
  ∀ (r : Int) H', 0 ≤ r → r < m → Kp p H H' → PenL H' p L (n + 1) → Q (.int r) H'
theorem ok_next {f : Addr} {fd : FuncData} {k : Nat} (F : Fun K "_law_next" "_law_next" sNext f fd) (mi : mg "int" = none) (ml : mg "len" = none) (ma : mg "abs" = none) : FnOk P w K mg base CX0 (k + 1) f fd ["_law_store_here", "_law_many"] spNext := by
  refine F.ok scNx (fun vs H Q E h => ?_) (fun cdv A outer s H vs Q E hr h => ?_)
  · obtain ⟨p, L, n, m, rfl, _⟩ := h
    rfl
  · obtain ⟨p, L, n, m, rfl, hP, hn, m0, m1, q⟩ := h
    have nd := scNx.nd
    have hu := hu_of hr
    refine ⟨_, pss_cons (ps_if (pt_cmpR op_gt (pe_ix ix_list (pv 0) pe_int (fun _ _ => rfl)) pe_int (nomark _))
        (pss_cons (ps_set (i := 2) nd rfl (.inl rfl) (pe_callTy call_int1 (by rfl) mi (by decide +kernel) (pa_cons (pe_ix ix_list (pv 0) pe_int (fun _ _ => rfl)) pa_nil)))
          (pss_cons (ps_asg (pe_op op_fdivW (pv 2) (pv 1)) (pg_sub (pv 0) pe_int set_list))
          (pss_one (ps_ret (pe_op op_mod (pe_callTy call_int1 (by rfl) mi (by decide +kernel) (pa_cons (pv 2) pa_nil)) (pv 1))))))
        pss_nil)
      (pss_cons (ps_set (i := 3) nd rfl (.inl rfl) (pe_ix ix_list (pv 0) pe_int (fun _ _ => rfl)))
      (pss_cons (ps_asg (pe_op op_add (pv 3) pe_int) (pg_sub (pv 0) pe_int set_list))
      (pss_cons (ps_set (i := 4) nd rfl (.inl rfl) (pe_op op_add (pe_op op_mul pe_int (pv 3)) pe_int))
      (C8.pss_cut (ps_if (pt_cmpR (op_neD hr.units) (pe_ix ix_list (pv 0) pe_int (fun _ _ => rfl)) (pe_lst pa_nil) (nomark _))
        (pss_one (ps_set (i := 4) nd rfl (.inl rfl) (pe_ix ix_list (pe_ix ix_list (pv 0) pe_int (fun _ _ => rfl))
          (pe_op op_mod (pe_callTy call_int1 (by rfl) mi (by decide +kernel) (pa_cons (pv 3) pa_nil)) (pe_callB call_len_seq (by rfl) ml PySem.boot_len (pa_cons (pe_ix ix_list (pv 0) pe_int (fun _ _ => rfl)) pa_nil))) (fun _ _ => rfl))))
        pss_nil)
      (C8.pss_cut (ps_if (PW.pt (pw_and (pt_cmpR op_lt (pv 3) (pe_callB call_len_seq (by rfl) ml PySem.boot_len (pa_cons (pe_ix ix_list (pv 0) pe_int (fun _ _ => rfl)) pa_nil)) (nomark _))
          (pw_and1 (pt_cmpR op_ge (pe_callB call_abs (by rfl) ma (by decide +kernel) (pa_cons (pv 4) pa_nil)) (pe_op op_pow pe_int pe_int) (nomark _)))))
        (pss_cons (ps_set (i := 2) nd rfl (.inl rfl) (pe_op op_add (pe_op op_mul pe_int (pe_op op_sub (pe_callB call_abs (by rfl) ma (by decide +kernel) (pa_cons (pe_callTy call_int1 (by rfl) mi (by decide +kernel) (pa_cons (pv 4) pa_nil)) pa_nil)) (pe_op op_pow pe_int pe_int)))
            (pe_callTy call_int1 (by rfl) mi (by decide +kernel) (pa_cons (pe_cmpR op_lt (pv 4) pe_int (nomark _)) pa_nil))))
          (pss_cons (ps_asg (pe_op op_fdivW (pv 2) (pv 1)) (pg_sub (pv 0) pe_int set_list))
          (pss_one (ps_ret (pe_op op_mod (pe_callTy call_int1 (by rfl) mi (by decide +kernel) (pa_cons (pv 2) pa_nil)) (pv 1))))))
        pss_nil)
      (pss_cons (ps_set (i := 5) nd rfl (.inl rfl) (pe_op op_mod (pe_callTy call_int1 (by rfl) mi (by decide +kernel) (pa_cons (pe_op op_pow
          (pe_op op_add (pe_op op_add (pe_op op_mod (pe_callTy call_int1 (by rfl) mi (by decide +kernel) (pa_cons (pv 4) pa_nil)) pe_int) (pe_op op_mul pe_int (pv 3))) pe_int) pe_int) pa_nil)) pe_int))
      (pss_cons (ps_set (i := 5) nd rfl (.inl rfl) (pe_op op_mod (pe_callTy call_int1 (by rfl) mi (by decide +kernel) (pa_cons (pe_op op_pow
          (pe_op op_add (pe_op op_add (pe_op op_mul (pv 5) (pe_op op_add (pe_op op_mul pe_int (pv 3)) pe_int)) (pe_op op_mul (pe_op op_mul pe_int (pv 3)) (pv 3))) pe_int) pe_int) pa_nil)) pe_int))
      (pss_one (ps_ret (pe_op op_mod (pe_callTy call_int1 (by rfl) mi (by decide +kernel) (pa_cons (pe_op op_fdiv (pv 5) pe_int) pa_nil)) (pv 1))))))))))), ?_⟩
    obtain ⟨ns, j, r, eP, eL, pL, ln, jn, r0⟩ := hP
    have dv : ∀ x : Int, CDivW x m := fun x => wide_div m0 m1 (by decide) (by decide)
    have fin : ∀ (c x : Int) (i : Nat) H1, Kp p H H1 → H1 L = some (.lst (ns.map V.int)) → i ≤ n + 1 → 0 ≤ x → H1 p = some (.lst [.ref L, .int (i : Int), .int x]) → Q (.int (c % m)) H1 := fun c x i H1 e1 e2 e3 e4 e5 =>
      q _ _ (Int.emod_nonneg _ (by omega)) (Int.emod_lt_of_pos _ m0) e1 ⟨ns, i, x, e5, e2, pL, ln, e3, e4⟩
    refine ⟨.ref p, rfl, p, _, 2, .int r, rfl, rfl, .inl (.inl eP), atI_nat (j := 2) rfl, r, 0, rfl, rfl, _, rfl, ite2 (fun c => ?_) (fun c => ?_)⟩
    · refine ⟨.ref p, rfl, p, _, 2, .int r, rfl, rfl, .inl (.inl eP), atI_nat (j := 2) rfl, .inl ⟨r, rfl, ?_⟩⟩
      refine ⟨.int r, rfl, .int m, rfl, r, m, rfl, rfl, dv r, ?_⟩
      refine ⟨.ref p, rfl, p, _, 2, 2, rfl, rfl, eP, rfl, ?_⟩
      refine ⟨.int r, rfl, .inl ⟨r, rfl, .int m, rfl, r, m, rfl, rfl, m0, ?_⟩⟩
      exact fin r (r / m) j _ Kp.upd ((upd_ne pL.symm).trans eL) (by omega) (Int.ediv_nonneg r0 (by omega)) upd_same
    · refine ⟨.ref p, rfl, p, _, 1, .int j, rfl, rfl, .inl (.inl eP), atI_nat (j := 1) rfl, ?_⟩
      refine ⟨.int j, rfl, j, 1, rfl, rfl, .ref p, rfl, p, _, 1, 1, rfl, rfl, eP, rfl, ?_⟩
      refine ⟨.int j, rfl, 60209, j, rfl, rfl, .inl ⟨by decide, by decide⟩, _, _, rfl, rfl, ?_⟩
      have eP1 : (upd H p (.lst [.ref L, .int ((j : Int) + 1), .int r])) p = some (.lst [.ref L, .int ((j + 1 : Nat) : Int), .int r]) := upd_same
      have eL1 : (upd H p (.lst [.ref L, .int ((j : Int) + 1), .int r])) L = some (.lst (ns.map V.int)) := (upd_ne pL.symm).trans eL
      refine ⟨fun σ H1 => ∃ c : Int, σ = [some (.ref p), some (.int m), none, some (.int j), some (.int c), none] ∧ Kp p H H1 ∧ H1 L = some (.lst (ns.map V.int)) ∧ H1 p = some (.lst [.ref L, .int ((j + 1 : Nat) : Int), .int r]), ?_, ?_⟩
      · refine ⟨.ref p, rfl, p, _, 0, .ref L, rfl, rfl, .inl (.inl eP1), atI_nat (j := 0) rfl, Nat.zero_le _, fun b nb => ?_⟩
        have e0 : Kp p H (upd (upd H p (.lst [.ref L, .int ((j : Int) + 1), .int r])) b (.lst [])) := Kp.trans Kp.upd (Same.kp (same_new nb))
        have eP2 := same_new (o := .lst []) nb _ _ eP1
        have eL2 := same_new (o := .lst []) nb _ _ eL1
        refine ⟨.list (ns.map .int), .list [], .lst (.inl (.inl eL2)) (dp_ints _ _ ns), .lst (.inl (.inl upd_same)) .nil, PySem.W.shaped_ints ns, rfl, _, rfl, ite2 (fun c => ?_) (fun c => ?_)⟩
        · cases ns with
          | nil => exact Bool.noConfusion (show false = true from c)
          | cons x t =>
            obtain ⟨c0, hc0⟩ := at_mod x t j
            refine ⟨.ref p, rfl, p, _, 0, .ref L, rfl, rfl, .inl (.inl eP2), atI_nat (j := 0) rfl, .int j, rfl, .inl ⟨j, rfl, ?_⟩⟩
            refine ⟨.ref p, rfl, p, _, 0, .ref L, rfl, rfl, .inl (.inl eP2), atI_nat (j := 0) rfl, L, _, rfl, .inl (.inl (.inl eL2)), j, _, rfl, rfl, ?_, ?_⟩
            · show (0 : Int) < _
              rw [List.length_map, List.length_cons]
              omega
            · exact ⟨L, _, _, .int c0, rfl, rfl, .inl (.inl eL2), hc0, c0, rfl, e0, eL2, eP2⟩
        · exact ⟨_, rfl, e0, eL2, eP2⟩
      · rintro σ H1 ⟨c, rfl, eK, eL1, eP1⟩
        refine ⟨fun σ H2 => σ = [some (.ref p), some (.int m), none, some (.int j), some (.int c), none] ∧ H2 = H1, ?_, ?_⟩
        · refine ⟨.int j, rfl, .ref p, rfl, p, _, 0, .ref L, rfl, rfl, .inl (.inl eP1), atI_nat (j := 0) rfl, L, _, rfl, .inl (.inl (.inl eL1)), j, _, rfl, rfl, _, rfl, ite2 (fun c1 => ?_) (fun c1 => ?_)⟩
          · refine ⟨.int c, rfl, c, rfl, 10, 18, rfl, rfl, ⟨by decide, by decide, by decide⟩, _, _, rfl, rfl, _, rfl, ite2 (fun c2 => ?_) (fun c2 => ?_)⟩
            · refine ⟨.int c, rfl, .inl ⟨c, rfl, c, rfl, 10, 18, rfl, rfl, ⟨by decide, by decide, by decide⟩, _, _, rfl, rfl, 2, _, rfl, rfl, .inl ⟨by decide, by decide⟩, ?_⟩⟩
              refine ⟨.int c, rfl, c, 0, rfl, rfl, .inr ⟨_, rfl, _, _, rfl, rfl, ?_⟩⟩
              have x0 : 0 ≤ 2 * ((if c < 0 then -c else c) - 10 ^ (18 : Int).toNat) + (if decide (c < 0) = true then 1 else 0) := by
                have z : (10 : Int) ^ (18 : Int).toNat ≤ (if c < 0 then -c else c) := of_decide_eq_true c2
                split <;> omega
              refine ⟨_, rfl, .int m, rfl, _, m, rfl, rfl, dv _, ?_⟩
              refine ⟨.ref p, rfl, p, _, 2, 2, rfl, rfl, eP1, rfl, ?_⟩
              refine ⟨_, rfl, .inl ⟨_, rfl, .int m, rfl, _, m, rfl, rfl, m0, ?_⟩⟩
              exact fin _ _ (j + 1) _ (eK.trans Kp.upd) ((upd_ne pL.symm).trans eL1) (by omega) (Int.ediv_nonneg x0 (Int.le_of_lt m0)) upd_same
            · exact ⟨rfl, rfl⟩
          · exact iteF ⟨rfl, rfl⟩
        · rintro σ H2 ⟨rfl, rfl⟩
          refine ⟨.int c, rfl, .inl ⟨c, rfl, c, 2147483549, rfl, rfl, (by show (0 : Int) < 2147483549; decide), .int j, rfl, 78059, j, rfl, rfl, .inl ⟨by decide, by decide⟩, _, _, rfl, rfl, _, _, rfl, rfl, _, 5, rfl, rfl, ?_, ?_⟩⟩
          · refine ⟨by decide, by decide, ?_⟩
            show (c % 2147483549 + 78059 * (j : Int) + 1433).natAbs < 2 ^ 64
            omega
          · refine .inl ⟨_, rfl, _, 2147483647, rfl, rfl, (by show (0 : Int) < 2147483647; decide), ?_⟩
            obtain ⟨y, hy⟩ : ∃ y : Int, y = ((c % 2147483549 + 78059 * (j : Int) + 1433) ^ (5 : Int).toNat) % 2147483647 := ⟨_, rfl⟩
            have y0 : 0 ≤ y := by
              rw [hy]
              exact Int.emod_nonneg _ (by decide)
            have y1 : y < 2147483647 := by
              rw [hy]
              exact Int.emod_lt_of_pos _ (by decide)
            refine ⟨.int y, by rw [hy]; rfl, .int j, rfl, 2, j, rfl, rfl, .inl ⟨by decide, by decide⟩, _, _, rfl, rfl, y, _, rfl, rfl, .inl ⟨by omega, by omega⟩, ?_⟩
            refine ⟨.int j, rfl, 60209, j, rfl, rfl, .inl ⟨by decide, by decide⟩, .int j, rfl, _, j, rfl, rfl, .inr ⟨by omega, by omega⟩, _, _, rfl, rfl, _, _, rfl, rfl, _, 3, rfl, rfl, ?_, ?_⟩
            · exact ⟨by decide, by decide, mix_bound y j y0 y1 (by omega)⟩
            · refine .inl ⟨_, rfl, _, 2147483579, rfl, rfl, (by show (0 : Int) < 2147483579; decide), ?_⟩
              refine ⟨_, rfl, _, 64, rfl, rfl, ⟨by decide, by decide⟩, .inl ⟨_, rfl, .int m, rfl, _, m, rfl, rfl, m0, ?_⟩⟩
              exact fin _ r (j + 1) _ eK eL1 (by omega) r0 eP1
end
end K01
namespace K01
open PySem PySem.Spec PyProof.Rows L2 BW
abbrev sFixed : Stmt := topS 4
abbrev sIsInt : Stmt := topS 11
abbrev sWithin : Stmt := topS 12
abbrev sIsName : Stmt := topS 13
abbrev sIsList : Stmt := topS 14
abbrev sAreNames : Stmt := topS 15
abbrev sIsCell : Stmt := topS 16
abbrev sCellKey : Stmt := topS 18
abbrev sCellText : Stmt := topS 19
abbrev sLPlain : Stmt := topS 26
abbrev sLName : Stmt := topS 27
abbrev sLCell : Stmt := topS 28
/-- the names of the top that the defs read -/
structure Tx (mg : Str → Option Value) : Prop where
  isi : mg "isinstance" = none
  int : mg "int" = none
  str : mg "str" = none
  bool : mg "bool" = none
  list : mg "list" = none
  tuple : mg "tuple" = none
  len : mg "len" = none
  all : mg "all" = none
  rng : mg "range" = none
  most : ∃ t, mg "MOST_SIGNS" = some (.int 12 t)
def isI : V → Bool
  | .int _ => true
  | .bl _ => true
  | _ => false
def isB : V → Bool
  | .bl _ => true
  | _ => false
def isS : V → Bool
  | .str _ => true
  | _ => false
def isP : V → Bool
  | .int _ => true
  | _ => false
theorem kd_int {H : Hp} {v : V} {T : String} (k : Knd H v T) : kitB T "int" = some (isI v) := by
  cases k
  · exact (by decide +kernel : kitB "NoneType" "int" = some false)
  · exact (by decide +kernel : kitB "bool" "int" = some true)
  · exact (by decide +kernel : kitB "int" "int" = some true)
  · exact (by decide +kernel : kitB "str" "int" = some false)
  · exact (by decide +kernel : kitB "list" "int" = some false)
  · exact (by decide +kernel : kitB "tuple" "int" = some false)
  · exact (by decide +kernel : kitB "dict" "int" = some false)
theorem kd_bool {H : Hp} {v : V} {T : String} (k : Knd H v T) : kitB T "bool" = some (isB v) := by
  cases k
  · exact (by decide +kernel : kitB "NoneType" "bool" = some false)
  · exact (by decide +kernel : kitB "bool" "bool" = some true)
  · exact (by decide +kernel : kitB "int" "bool" = some false)
  · exact (by decide +kernel : kitB "str" "bool" = some false)
  · exact (by decide +kernel : kitB "list" "bool" = some false)
  · exact (by decide +kernel : kitB "tuple" "bool" = some false)
  · exact (by decide +kernel : kitB "dict" "bool" = some false)
theorem kd_str {H : Hp} {v : V} {T : String} (k : Knd H v T) : kitB T "str" = some (isS v) := by
  cases k
  · exact (by decide +kernel : kitB "NoneType" "str" = some false)
  · exact (by decide +kernel : kitB "bool" "str" = some false)
  · exact (by decide +kernel : kitB "int" "str" = some false)
  · exact (by decide +kernel : kitB "str" "str" = some true)
  · exact (by decide +kernel : kitB "list" "str" = some false)
  · exact (by decide +kernel : kitB "tuple" "str" = some false)
  · exact (by decide +kernel : kitB "dict" "str" = some false)
theorem kd_list {H : Hp} {v : V} {T : String} (k : Knd H v T) : kitB T "list" = some (T == "list") := by
  cases k
  · exact (by decide +kernel : kitB "NoneType" "list" = some false)
  · exact (by decide +kernel : kitB "bool" "list" = some false)
  · exact (by decide +kernel : kitB "int" "list" = some false)
  · exact (by decide +kernel : kitB "str" "list" = some false)
  · exact (by decide +kernel : kitB "list" "list" = some true)
  · exact (by decide +kernel : kitB "tuple" "list" = some false)
  · exact (by decide +kernel : kitB "dict" "list" = some false)
theorem kd_tuple {H : Hp} {v : V} {T : String} (k : Knd H v T) : kitB T "tuple" = some (T == "tuple") := by
  cases k
  · exact (by decide +kernel : kitB "NoneType" "tuple" = some false)
  · exact (by decide +kernel : kitB "bool" "tuple" = some false)
  · exact (by decide +kernel : kitB "int" "tuple" = some false)
  · exact (by decide +kernel : kitB "str" "tuple" = some false)
  · exact (by decide +kernel : kitB "list" "tuple" = some false)
  · exact (by decide +kernel : kitB "tuple" "tuple" = some true)
  · exact (by decide +kernel : kitB "dict" "tuple" = some false)
def seqT (T : String) : Bool := T == "list" || T == "tuple"
section
variable {P : Program} {w : World} {K : PySem.W.Frag} {mg : Str → Option Value} {base : Heap}
def spK (f : V → Bool) : Sp := fun vs H Q _ => ∃ (v : V) (T : String), vs = [v] ∧ Knd H v T ∧ Evl.RetV (.bl (f v)) H Q
theorem sc_ii : FnScope ["value"] ["value"] (defScope sIsInt) := ⟨rfl, rfl, rfl, by decide +kernel, rfl, by decide +kernel, by decide +kernel⟩
theorem ok_isint {f : Addr} {fd : FuncData} {k : Nat} (T : Tx mg) (F : Fun K "is_integer" "is_integer" sIsInt f fd) : FnOk P w K mg base CX0 (k + 1) f fd ["value"] (spK isP) := by
  refine F.ok sc_ii (fun vs H Q E h => ?_) (fun cdv A outer s H vs Q E hr h => ?_)
  · obtain ⟨v, t, rfl, _⟩ := h
    rfl
  · obtain ⟨v, t, rfl, kd, q⟩ := h
    refine ⟨_, pss_one (ps_ret (pe_and (pe_callB call_isi (by rfl) T.isi (by decide +kernel) (pa_cons (pv 0) (pa_cons (pe_bltn (v := .ty "int") (by rfl) T.int (by decide +kernel) rfl) pa_nil)))
      (pe_one (pe_not (pe_callB call_isi (by rfl) T.isi (by decide +kernel) (pa_cons (pv 0) (pa_cons (pe_bltn (v := .ty "bool") (by rfl) T.bool (by decide +kernel) rfl) pa_nil))))))), ?_⟩
    refine Evl.s_ret (v := .bl (isP v)) (Evl.ev_is (Evl.ev_andV (Evl.ev_is (ev_isi (Evl.ev_var rfl) kd (kd_int kd)) rfl) (fun _ => Evl.ev_notV (ev_isi (Evl.ev_var rfl) kd (kd_bool kd)))) ?_) (fun H1 e => q.go e)
    cases kd <;> rfl
theorem sc_lp : FnScope ["_law_value_here"] ["_law_value_here"] (defScope sLPlain) := ⟨rfl, rfl, rfl, by decide +kernel, rfl, by decide +kernel, by decide +kernel⟩
theorem ok_lplain {f : Addr} {fd : FuncData} {k : Nat} (T : Tx mg) (F : Fun K "_law_is_plain" "_law_is_plain" sLPlain f fd) : FnOk P w K mg base CX0 (k + 1) f fd ["_law_value_here"] (spK isP) := by
  refine F.ok sc_lp (fun vs H Q E h => ?_) (fun cdv A outer s H vs Q E hr h => ?_)
  · obtain ⟨v, t, rfl, _⟩ := h
    rfl
  · obtain ⟨v, t, rfl, kd, q⟩ := h
    refine ⟨_, pss_one (ps_ret (pe_and (pe_callB call_isi (by rfl) T.isi (by decide +kernel) (pa_cons (pv 0) (pa_cons (pe_bltn (v := .ty "int") (by rfl) T.int (by decide +kernel) rfl) pa_nil)))
      (pe_one (pe_not (pe_callB call_isi (by rfl) T.isi (by decide +kernel) (pa_cons (pv 0) (pa_cons (pe_bltn (v := .ty "bool") (by rfl) T.bool (by decide +kernel) rfl) pa_nil))))))), ?_⟩
    refine Evl.s_ret (v := .bl (isP v)) (Evl.ev_is (Evl.ev_andV (Evl.ev_is (ev_isi (Evl.ev_var rfl) kd (kd_int kd)) rfl) (fun _ => Evl.ev_notV (ev_isi (Evl.ev_var rfl) kd (kd_bool kd)))) ?_) (fun H1 e => q.go e)
    cases kd <;> rfl
/-- bounds -/
def noB : V → Prop := fun v => v = .non ∨ ∃ i, v = .int i
def geB (v lo : V) : Bool := match v, lo with
  | .int i, .int a => decide (a ≤ i)
  | _, _ => true
def leB (v hi : V) : Bool := match v, hi with
  | .int i, .int a => decide (i ≤ a)
  | _, _ => true
def inB (v lo hi : V) : Bool := isP v && (geB v lo && leB v hi)
theorem sc_wi : FnScope ["value", "least", "most"] ["value", "least", "most"] (defScope sWithin) := ⟨rfl, rfl, rfl, by decide +kernel, rfl, by decide +kernel, by decide +kernel⟩
def spWithin : Sp := fun vs H Q _ => ∃ (v lo hi : V) (T : String), vs = [v, lo, hi] ∧ Knd H v T ∧ noB lo ∧ noB hi ∧ Evl.RetV (.bl (inB v lo hi)) H Q
theorem sp_k {g : V → Bool} {v : V} {T : String} {H : Hp} (k : Knd H v T) : Evl.SpV (spK g) ([v] ++ []) H (.bl (g v)) := fun H1 e Q q _ => ⟨v, T, rfl, k.mono e, q⟩
theorem ok_within {f fI : Addr} {fd fdI : FuncData} {k : Nat} (T : Tx mg) (F : Fun K "is_within" "is_within" sWithin f fd) (G : FnOk P w K mg base CX0 (k + 1) fI fdI ["value"] (spK isP)) (bI : Binds K fdI ["value"] []) (gI : mg "is_integer" = some (.ref fI)) (kI : PySem.W.keepIn K (.ref fI) = true) :
    FnOk P w K mg base CX0 (k + 2) f fd ["value", "least", "most"] spWithin := by
  refine F.ok sc_wi (fun vs H Q E h => ?_) (fun cdv A outer s H vs Q E hr h => ?_)
  · obtain ⟨v, lo, hi, t, rfl, _⟩ := h
    rfl
  · obtain ⟨v, lo, hi, t, rfl, kd, h1, h2, q⟩ := h
    refine ⟨_, pss_one (ps_ret (pe_and (pe_call G hr (by rfl) gI kI bI .nil pass0 (pa_cons (pv 0) pa_nil)) (pe_and (pe_or (pe_cmpR op_isN (pv 1) pe_non (nomark _)) (pe_one (pe_cmpR op_ge (pv 0) (pv 1) (nomark _))))
      (pe_one (pe_or (pe_cmpR op_isN (pv 2) pe_non (nomark _)) (pe_one (pe_cmpR op_le (pv 0) (pv 2) (nomark _)))))))), ?_⟩
    have isN : ∀ (i : Nat) (u : V) (σ : L2.St) (b : Bool), σ[i]? = some (some u) → decide (u = .non) = b → Evl.Ev (tOp (fun x y H Q => y = .non ∧ Q (.bl (decide (x = .non))) H) (tVar i) (tC .non)) σ H (.bl b) := fun i u σ b hs e => by
      subst e
      exact Evl.ev_op (Evl.ev_var hs) Evl.ev_c fun H1 _ _ q => ⟨rfl, q H1 (Evl.Ex.refl H1)⟩
    refine Evl.s_ret (v := .bl (inB v lo hi)) (Evl.ev_is (Evl.ev_andV (Evl.ev_call (Evl.ea_cons (Evl.ev_var rfl) Evl.ea_nil) (sp_k kd)) (b := geB v lo && leB v hi) (fun hp => ?_)) rfl) (fun H1 e => q.go e)
    obtain ⟨n, rfl⟩ : ∃ n, v = .int n := by
      cases v with
      | int n => exact ⟨n, rfl⟩
      | _ => cases hp
    refine Evl.ev_andV (a := geB (.int n) lo) ?_ (fun _ => ?_)
    · rcases h1 with rfl | ⟨a, rfl⟩
      · exact Evl.ev_orV (a := true) (b := true) (isN 1 .non _ _ rfl (decide_eq_true rfl)) (fun z => nomatch z)
      · exact Evl.ev_orV (a := false) (isN 1 (.int a) _ _ rfl (decide_eq_false (fun z => nomatch z))) (fun _ => Evl.ev_op (Evl.ev_var rfl) (Evl.ev_var rfl) Evl.rv_I0)
    · rcases h2 with rfl | ⟨a, rfl⟩
      · exact Evl.ev_orV (a := true) (b := true) (isN 2 .non _ _ rfl (decide_eq_true rfl)) (fun z => nomatch z)
      · exact Evl.ev_orV (a := false) (isN 2 (.int a) _ _ rfl (decide_eq_false (fun z => nomatch z))) (fun _ => Evl.ev_op (Evl.ev_var rfl) (Evl.ev_var rfl) Evl.rv_I0)
end
end K01
namespace BW
open PySem PySem.Spec PyProof.Rows L2
theorem asc_lt {z : Str} (h : Txt.isascii z = true) : ∀ c ∈ z.cps.toList, c < 128 := by
  intro c hc
  unfold Txt.isascii at h
  rw [← Array.all_toList] at h
  exact of_decide_eq_true (List.all_eq_true.mp h c hc)
theorem asc_no {z : Str} (h : Txt.isascii z = false) : ∃ c, c ∈ z.cps.toList ∧ ¬ c < 128 := by
  unfold Txt.isascii at h
  rw [← Array.all_toList, List.all_eq_false] at h
  obtain ⟨c, hc, hn⟩ := h
  exact ⟨c, hc, fun hl => hn (decide_eq_true hl)⟩
theorem sign_asc {c : Nat} (h : ¬ c < 128) : (isLet c || isDig c) = false := by
  have h1 : ∀ d ∈ letters.cps.toList, d < 128 := by decide +kernel
  have h2 : ∀ d ∈ digits.cps.toList, d < 128 := by decide +kernel
  have e1 : isLet c = false := decide_eq_false fun hm => h (h1 c hm)
  have e2 : isDig c = false := decide_eq_false fun hm => h (h2 c hm)
  rw [e1, e2]
  rfl
theorem sign_is : ∀ c, c < 128 → (isLet c || isDig c) = (Unicode.isAlnum c && decide (lo1 c = c)) := by decide +kernel
theorem first_is : ∀ c, c < 128 → (isLet c || isDig c) = true → isLet c = !(Txt.isdigit ⟨#[c]⟩) := by decide +kernel
theorem all_two {p q r : Nat → Bool} : ∀ l : List Nat, (∀ c ∈ l, p c = (q c && r c)) → l.all p = (l.all q && l.all r)
  | [], _ => rfl
  | a :: t, h => by
    rw [List.all_cons, List.all_cons, List.all_cons, h a (.head _), all_two t fun c hc => h c (.tail _ hc)]
    cases q a <;> cases r a <;> cases t.all q <;> cases t.all r <;> rfl
theorem map_same {f : Nat → Nat} : ∀ l : List Nat, decide (l = l.map f) = l.all fun c => decide (f c = c)
  | [] => rfl
  | a :: t => by
    rw [List.all_cons, ← map_same t, List.map_cons, Bool.eq_iff_iff]
    simp only [decide_eq_true_eq, Bool.and_eq_true, List.cons.injEq]
    exact ⟨fun h => ⟨h.1.symm, h.2⟩, fun h => ⟨h.1.symm, h.2⟩⟩
theorem lower_same {z : Str} (hA : ∀ c ∈ z.cps.toList, c < 128) : decide (V.str z = V.str (Txt.lower z)) = z.cps.toList.all fun c => decide (lo1 c = c) := by
  rw [lower_ascii hA, ← map_same, Bool.eq_iff_iff]
  simp only [decide_eq_true_eq, V.str.injEq]
  constructor
  · intro h
    have := congrArg (fun s : Str => s.cps.toList) h
    rw [show (Str.mk (z.cps.map lo1)).cps.toList = z.cps.toList.map lo1 from Array.toList_map ..] at this
    exact this
  · intro h
    cases z with
    | mk a =>
      congr 1
      apply Array.toList_inj.mp
      rw [Array.toList_map]
      exact h
/-- a name as the package looks at it: small letters and digits of ASCII, no digit first -/
def newName (z : Str) (c : Nat) : Bool := Txt.isascii z && (Txt.isalnum z && (decide (V.str z = V.str (Txt.lower z)) && !(Txt.isdigit ⟨#[c]⟩)))
theorem name_new {z : Str} {c : Nat} {r : List Nat} (he : z.cps.toList = c :: r) : newName z c = (isLet c && (c :: r).all fun c => isLet c || isDig c) := by
  unfold newName
  cases hA : Txt.isascii z with
  | false =>
    obtain ⟨d, hd, hn⟩ := asc_no hA
    rw [he] at hd
    have hf : ((c :: r).all fun c => isLet c || isDig c) = false := by
      rw [List.all_eq_false]
      exact ⟨d, hd, by rw [sign_asc hn]; exact Bool.false_ne_true⟩
    rw [hf, Bool.and_false]
    rfl
  | true =>
    have hL := asc_lt hA
    rw [lower_same hL, Bool.true_and]
    have hN : Txt.isalnum z = z.cps.toList.all Unicode.isAlnum := by
      unfold Txt.isalnum
      have hp : z.length > 0 := by
        have : z.cps.toList.length = z.length := Array.length_toList
        rw [he, List.length_cons] at this
        omega
      rw [decide_eq_true hp, Bool.true_and, ← Array.all_toList]
    rw [hN, he]
    rw [he] at hL
    have h2 : ((c :: r).all fun c => isLet c || isDig c) = ((c :: r).all Unicode.isAlnum && (c :: r).all fun c => decide (lo1 c = c)) :=
      all_two (c :: r) fun d hd => sign_is d (hL d hd)
    cases hx : ((c :: r).all fun c => isLet c || isDig c) with
    | false =>
      rw [hx] at h2
      rw [← Bool.and_assoc, ← h2, Bool.and_false]
      rfl
    | true =>
      rw [hx] at h2
      rw [← Bool.and_assoc, ← h2, Bool.true_and, Bool.and_true, first_is c (hL c (.head _)) ?_]
      rw [List.all_eq_true] at hx
      exact hx c (.head _)
theorem ev_m0 {r : V → List V → Hp → VK → Prop} {to : TE} {σ : L2.St} {H : Hp} {z : Str} {u : V} (h : Evl.Ev to σ H (.str z)) (hr : ∀ H1 Q, Q u H1 → r (.str z) [] H1 Q) : Evl.Ev (tM0 r to) σ H u :=
  fun H1 e Q q => h H1 e _ fun H2 e2 => ⟨⟨z, rfl⟩, hr H2 Q (q H2 e2)⟩
theorem rv_strEq {a b : Str} {H : Hp} : Evl.RV rEq (.str a) (.str b) H (.bl (decide (V.str a = V.str b))) := fun H1 _ _ q => ⟨rfl, q H1 (Evl.Ex.refl H1)⟩
section
variable {X : Cx} {o o2 o3 o4 ix : Expr} {to : TE}
theorem pe_ascii {apos pos : Pos} (ho : PE X o to) (hbase : attributeBase o "isascii" X.env (eval o X.env) = eval o X.env := by rfl) (hline : (apos.endLine == pos.line) = true := by rfl) :
    PE X (.Call (.Attribute o "isascii" apos) [] [] pos) (tM0 (fun x xs H Q => ∃ a, x = .str a ∧ xs = [] ∧ True ∧ Q (.bl (Txt.isascii a)) H) to) :=
  pe_m0 PySem.F.slot_str_isascii PySem.F.type_str_isascii mt_isascii ho hbase hline
theorem pe_alnum {apos pos : Pos} (ho : PE X o to) (hbase : attributeBase o "isalnum" X.env (eval o X.env) = eval o X.env := by rfl) (hline : (apos.endLine == pos.line) = true := by rfl) :
    PE X (.Call (.Attribute o "isalnum" apos) [] [] pos) (tM0 (fun x xs H Q => ∃ a, x = .str a ∧ xs = [] ∧ True ∧ Q (.bl (Txt.isalnum a)) H) to) :=
  pe_m0 PySem.F.slot_str_isalnum PySem.F.type_str_isalnum mt_isalnum ho hbase hline
theorem pe_digit {apos pos : Pos} (ho : PE X o to) (hbase : attributeBase o "isdigit" X.env (eval o X.env) = eval o X.env := by rfl) (hline : (apos.endLine == pos.line) = true := by rfl) :
    PE X (.Call (.Attribute o "isdigit" apos) [] [] pos) (tM0 (fun x xs H Q => ∃ a, x = .str a ∧ xs = [] ∧ True ∧ Q (.bl (Txt.isdigit a)) H) to) :=
  pe_m0 PySem.F.slot_str_isdigit PySem.F.type_str_isdigit mt_isdigit ho hbase hline
end
end BW
namespace K01
open PySem PySem.Spec PyProof.Rows L2 BW
section
variable {P : Program} {w : World} {K : PySem.W.Frag} {mg : Str → Option Value} {base : Heap}
theorem sc_in : FnScope ["value", "sign"] ["value"] (defScope sIsName) := ⟨rfl, rfl, rfl, by decide +kernel, rfl, by decide +kernel, by decide +kernel⟩
theorem isName_str {v : V} (h : isS v = false) : isName v = false := by
  cases v <;> first | rfl | cases h
theorem len_list (z : Str) : z.cps.toList.length = z.length := Array.length_toList
theorem ok_isname {f : Addr} {fd : FuncData} {k : Nat} (T : Tx mg) (F : Fun K "is_name" "is_name" sIsName f fd) : FnOk P w K mg base CX0 (k + 1) f fd ["value"] (spK isName) := by
  refine F.ok sc_in (fun vs H Q E h => ?_) (fun cdv A outer s H vs Q E hr h => ?_)
  · obtain ⟨v, t, rfl, _⟩ := h
    rfl
  · obtain ⟨v, t, rfl, kd, q⟩ := h
    have nd := sc_in.nd
    obtain ⟨tM, gM⟩ := T.most
    refine ⟨_, pss_cons (ps_if (PW.pt (pw_or (pt_not (pt_val (pe_callB call_isi (by rfl) T.isi (by decide +kernel) (pa_cons (pv 0) (pa_cons (pe_bltn (v := .ty "str") (by rfl) T.str (by decide +kernel) rfl) pa_nil)))))
        (pw_or1 (pt_not (pt_chain op_le op_le pe_int (pe_callB call_len_str (by rfl) T.len PySem.boot_len (pa_cons (pv 0) pa_nil)) (pe_glob (v := .int 12) rfl gM ⟨_, rfl⟩))))))
        (pss_one (ps_ret pe_bl)) pss_nil)
      (pss_one (ps_ret (pe_and (pe_ascii (pv 0)) (pe_and (pe_alnum (pv 0)) (pe_and (pe_cmpR op_eq (pv 0) (pe_lower (pv 0)) (nomark _)) (pe_one (pe_not (pe_digit (pe_ix ix_str (pv 0) pe_int (fun _ _ => rfl)))))))))), ?_⟩
    cases hs : isS v with
    | false =>
      refine Evl.q_when (b := true) (Evl.et_or (a := true) (b := true) (Evl.et_is (Evl.et_not (Evl.et_B (ev_isi (Evl.ev_var rfl) kd (kd_str kd)))) (by rw [hs]; rfl)) (fun z => nomatch z)) (fun _ H1 e1 => ?_) (fun z => nomatch z)
      exact Evl.s_ret Evl.ev_c fun H2 e2 => by
        rw [isName_str hs] at q
        exact q.go (e1.trans e2)
    | true =>
      cases kd with
      | @str z hz =>
        have z1 : (z.length : Nat) ≤ 100000 := by omega
        refine Evl.q_when (b := !(decide ((1 : Int) ≤ (z.length : Int)) && decide ((z.length : Int) ≤ 12))) (Evl.et_or (a := false) (Evl.et_is (Evl.et_not (Evl.et_B (ev_isi (Evl.ev_var rfl) (.str hz) (kd_str (H := H) (.str hz))))) rfl)
          (fun _ => Evl.et_not (et_chain Evl.ev_c (Evl.ev_cb (Evl.ea_cons (Evl.ev_var rfl) Evl.ea_nil) (fun H1 _ Q q => ⟨z, rfl, Evl.sz_of z1, q H1 (Evl.Ex.refl H1)⟩)) Evl.ev_c Evl.rv_I0 Evl.rv_I0))) (fun hb H1 e1 => ?_) (fun hb H1 e1 => ?_)
        · refine Evl.s_ret Evl.ev_c fun H2 e2 => ?_
          have hn : isName (.str z) = false := by
            show nameB z = false
            unfold nameB
            have hl := len_list z
            split
            · rfl
            · rename_i c r he
              rw [he] at hl
              have h13 : ¬ z.length ≤ 12 := fun h => by
                rw [List.length_cons] at hl
                rw [decide_eq_true (by omega : (1 : Int) ≤ (z.length : Int)), decide_eq_true (by omega : (z.length : Int) ≤ 12)] at hb
                cases hb
              rw [decide_eq_false h13]
              rfl
          rw [hn] at q
          exact q.go (e1.trans e2)
        · have hl := len_list z
          have hb2 : (decide ((1 : Int) ≤ (z.length : Int)) && decide ((z.length : Int) ≤ 12)) = true := by
            cases hx : (decide ((1 : Int) ≤ (z.length : Int)) && decide ((z.length : Int) ≤ 12)) with
            | true => rfl
            | false =>
              rw [hx] at hb
              cases hb
          rw [Bool.and_eq_true, decide_eq_true_eq, decide_eq_true_eq] at hb2
          cases he : z.cps.toList with
          | nil =>
            rw [he] at hl
            have hl0 : 0 = z.length := hl
            omega
          | cons c r =>
            have hat : atI z.cps.toList 0 = some c := atI_nat (j := 0) (by rw [he]; rfl)
            refine Evl.s_ret (v := .bl (isLet c && (c :: r).all fun c => isLet c || isDig c)) ?_ (fun H2 e2 => ?_)
            · rw [← name_new he]
              exact Evl.ev_andV (ev_m0 (Evl.ev_var rfl) fun _ _ q => ⟨z, rfl, rfl, trivial, q⟩) fun _ => Evl.ev_andV (ev_m0 (Evl.ev_var rfl) fun _ _ q => ⟨z, rfl, rfl, trivial, q⟩) fun _ =>
                Evl.ev_andV (Evl.ev_op (Evl.ev_var rfl) (ev_m0 (Evl.ev_var rfl) fun _ _ q => ⟨z, rfl, rfl, by omega, q⟩) rv_strEq) fun _ =>
                  Evl.ev_notV (ev_m0 (Evl.ev_op (Evl.ev_var rfl) Evl.ev_c (Evl.rv_ixS z1 hat)) fun _ _ q => ⟨⟨#[c]⟩, rfl, rfl, trivial, q⟩)
            · have hn : isName (.str z) = (isLet c && (c :: r).all fun c => isLet c || isDig c) := by
                show nameB z = _
                unfold nameB
                rw [he]
                dsimp only
                rw [decide_eq_true (by omega : z.length ≤ 12), Bool.true_and]
              rw [hn] at q
              exact q.go (e1.trans e2)
      | _ => cases hs
end
end K01
namespace K01
open PySem PySem.Spec PyProof.Rows L2 BW
def alnum : Str := "abcdefghijklmnopqrstuvwxyz0123456789"
theorem alnum_split : alnum.cps.toList = letters.cps.toList ++ digits.cps.toList := by decide +kernel
theorem alnum_in (c : Nat) : decide (c ∈ alnum.cps.toList) = (isLet c || isDig c) := by
  unfold isLet isDig
  rw [alnum_split]
  by_cases h1 : c ∈ letters.cps.toList
  · rw [decide_eq_true h1, Bool.true_or, decide_eq_true (List.mem_append_left _ h1)]
  · by_cases h2 : c ∈ digits.cps.toList
    · rw [decide_eq_true h2, Bool.or_true, decide_eq_true (List.mem_append_right _ h2)]
    · rw [decide_eq_false h1, decide_eq_false h2, decide_eq_false (fun h => (List.mem_append.mp h).elim h1 h2)]
      rfl
theorem strOk_sign {z : Str} {c : Nat} {i : Nat} (h : PySem.PyData.strOk z = true) (hc : z.cps[i]? = some c) : PySem.PyData.strOk ⟨#[c]⟩ = true := by
  have hm : c ∈ z.cps := Array.mem_of_getElem? hc
  have h2 : c < 0x110000 := of_decide_eq_true (Array.all_eq_true_iff_forall_mem.mp h c hm)
  show (#[c]).all (· < 0x110000) = true
  simp [h2]
/-- a text's first sign, in a list of signs -/
theorem cut_one (z : Str) : cutS z none (some 1) = ⟨(z.cps.toList.take 1).toArray⟩ := by
  unfold cutS
  have h1 : HT.sIx z.length 0 none = 0 := rfl
  have h2 : HT.sIx z.length z.length (some 1) = min 1 z.length := by
    unfold HT.sIx
    simp
    try omega
  rw [h1, h2, List.drop_zero, Nat.sub_zero]
  congr 2
  by_cases h : 1 ≤ z.length
  · rw [Nat.min_eq_left h]
  · have h0 : z.length = 0 := by omega
    have hz : z.cps.toList = [] := List.eq_nil_of_length_eq_zero (by rw [Array.length_toList]; exact h0)
    rw [hz, List.take_nil, List.take_nil]
theorem sign_in (z : Str) (w : Str) : inV (.str (cutS z none (some 1))) (signsV w) = match z.cps.toList with
  | [] => false
  | c :: _ => decide (c ∈ w.cps.toList) := by
  rw [cut_one]
  have key : ∀ (s : Str) (l : List Nat), inV (.str s) (l.map fun c => V.str ⟨#[c]⟩) = l.any fun c => decide (s = ⟨#[c]⟩) := fun s l => by
    induction l with
    | nil => rfl
    | cons c l ih =>
      rw [List.map_cons, List.any_cons, ← ih]
      unfold inV
      rw [List.any_cons]
      congr 1
      unfold eqV
      by_cases e : s = ⟨#[c]⟩
      · subst e
        simp
      · simp [e]
        try (intro h; exact e h.symm)
  unfold signsV
  rw [key]
  cases he : z.cps.toList with
  | nil =>
    rw [List.any_eq_false]
    intro c _
    simp
  | cons c r =>
    dsimp only
    rw [List.take_succ_cons, List.take_zero]
    by_cases h : c ∈ w.cps.toList
    · rw [decide_eq_true h, List.any_eq_true]
      exact ⟨c, h, by simp⟩
    · rw [decide_eq_false h, List.any_eq_false]
      intro d hd
      simp
      intro e
      exact h (e ▸ hd)
section
variable {P : Program} {w : World} {K : PySem.W.Frag} {mg : Str → Option Value} {base : Heap}
theorem sc_ln : FnScope ["_law_value_here", "_law_sign"] ["_law_value_here"] (defScope sLName) := ⟨rfl, rfl, rfl, by decide +kernel, rfl, by decide +kernel, by decide +kernel⟩
/-- the value's own signs are in range -/
def okV : V → Prop
  | .str z => PySem.PyData.strOk z = true
  | _ => True
def spKo (f : V → Bool) : Sp := fun vs H Q _ => ∃ (v : V) (T : String), vs = [v] ∧ Knd H v T ∧ okV v ∧ Evl.RetV (.bl (f v)) H Q
theorem nameB_alt (z : Str) (h : z.length ≤ 12) : nameB z = match z.cps.toList with
  | [] => false
  | c :: r => isLet c && (c :: r).all fun c => decide (c ∈ alnum.cps.toList) := by
  unfold nameB
  cases he : z.cps.toList with
  | nil => rfl
  | cons c r =>
    dsimp only
    rw [decide_eq_true h, Bool.true_and]
    congr 1
    congr 1
    funext c
    exact (alnum_in c).symm
theorem ok_lname {f : Addr} {fd : FuncData} {k : Nat} (T : Tx mg) (F : Fun K "_law_is_name" "_law_is_name" sLName f fd) : FnOk P w K mg base CX0 (k + 1) f fd ["_law_value_here"] (spKo isName) := by
  refine F.ok sc_ln (fun vs H Q E h => ?_) (fun cdv A outer s H vs Q E hr h => ?_)
  · obtain ⟨v, t, rfl, _⟩ := h
    rfl
  · obtain ⟨v, t, rfl, kd, ok, q⟩ := h
    have nd := sc_ln.nd
    refine ⟨_, pss_cons (ps_if (PW.pt (pw_or (pt_not (pt_val (pe_callB call_isi (by rfl) T.isi (by decide +kernel) (pa_cons (pv 0) (pa_cons (pe_bltn (v := .ty "str") (by rfl) T.str (by decide +kernel) rfl) pa_nil)))))
        (pw_or (pt_cmpR op_gt (pe_callB call_len_str (by rfl) T.len PySem.boot_len (pa_cons (pv 0) pa_nil)) pe_int (nomark _))
          (pw_or1 (pt_cmpR (show OpR _ _ (rIn K true) from op_notIn_seq) (pe_slice sl_str (pv 0) po_none (po_some pe_int)) (pe_callTy (cr_listStr rfl) (by rfl) T.list (by decide +kernel) (pa_cons pe_str pa_nil)) (by rfl))))))
        (pss_one (ps_ret pe_bl)) pss_nil)
      (pss_one (ps_ret (pe_cmpR (op_eqD hr.units) (pe_lc (own := [("_law_sign", 1)]) (g := gName 1) rfl nd (pi_str (pv 0))
          (blkOk_by (N := ["_law_value_here", "_law_sign"]) (sc := defScope sLName) (by decide +kernel)) (fun _ _ _ _ _ => pg_name (i := 1) nd rfl (Or.inl rfl))
          (fun _ _ _ _ _ => pts_one (pt_cmpR op_notIn_sign (pv 1) (pe_str (x := alnum)) (by rfl)))
          (fun _ _ _ _ _ => pv 1)) (pe_lst pa_nil) (nomark _)))), ?_⟩
    cases hs : isS v with
    | false =>
      refine Evl.q_when (b := true) (Evl.et_or (a := true) (b := true) (Evl.et_is (Evl.et_not (Evl.et_B (ev_isi (Evl.ev_var rfl) kd (kd_str kd)))) (by rw [hs]; rfl)) (fun z => nomatch z)) (fun _ H1 e1 => ?_) (fun z => nomatch z)
      exact Evl.s_ret Evl.ev_c fun H2 e2 => by
        rw [isName_str hs] at q
        exact q.go (e1.trans e2)
    | true =>
      cases kd with
      | @str z hz =>
        have z1 : (z.length : Nat) ≤ 100000 := by omega
        refine Evl.q_when (b := decide ((12 : Int) < (z.length : Int)) || !inV (.str (cutS z none (some 1))) (signsV letters)) (Evl.et_or (a := false) (Evl.et_is (Evl.et_not (Evl.et_B (ev_isi (Evl.ev_var rfl) (.str hz) (kd_str (H := H) (.str hz))))) rfl)
          (fun _ => Evl.et_or (Evl.et_test (Evl.ev_op (Evl.ev_cb (Evl.ea_cons (Evl.ev_var rfl) Evl.ea_nil) (fun H1 _ Q q => ⟨z, rfl, Evl.sz_of z1, q H1 (Evl.Ex.refl H1)⟩)) Evl.ev_c Evl.rv_I0)) (fun _ => Evl.et_test ?_))) (fun hb H1 e1 => ?_) (fun hb H1 e1 => ?_)
        · refine Evl.ev_opL (x := .str (cutS z none (some 1))) ?_ (el_listStr Evl.ev_c (by decide)) (fun p H1 hp _ => Evl.rv_niL (Evl.sq_of hp) rfl (by decide +kernel))
          exact fun H1 e Q q => ⟨.str z, rfl, 1, rfl, z, rfl, Evl.sz_of z1, q H1 (Evl.Ex.refl H1)⟩
        · refine Evl.s_ret Evl.ev_c fun H2 e2 => ?_
          have hn : isName (.str z) = false := by
            show nameB z = false
            by_cases h12 : z.length ≤ 12
            · rw [decide_eq_false (by omega), Bool.false_or, sign_in] at hb
              rw [nameB_alt z h12]
              cases he : z.cps.toList with
              | nil => rfl
              | cons c r =>
                rw [he] at hb
                dsimp only at hb ⊢
                have hc : isLet c = false := by
                  unfold isLet
                  cases hx : decide (c ∈ letters.cps.toList) with
                  | false => rfl
                  | true =>
                    rw [hx] at hb
                    cases hb
                rw [hc]
                rfl
            · unfold nameB
              split
              · rfl
              · rw [decide_eq_false h12]
                rfl
          rw [hn] at q
          exact q.go (e1.trans e2)
        · have h12 : z.length ≤ 12 := by
            by_cases h : z.length ≤ 12
            · exact h
            · rw [decide_eq_true (by omega)] at hb
              cases hb
          rw [decide_eq_false (by omega), Bool.false_or, sign_in] at hb
          have hn : isName (.str z) = (Evl.given z.cps.size (fun i => !decide (z.cps.toList.getD i 0 ∈ alnum.cps.toList)) (fun i => V.str ⟨#[z.cps.toList.getD i 0]⟩)).isEmpty := by
            show nameB z = _
            rw [nameB_alt z h12, given_empty]
            cases he : z.cps.toList with
            | nil =>
              rw [he] at hb
              cases hb
            | cons c r =>
              rw [he] at hb
              dsimp only at hb ⊢
              have hc : isLet c = true := by
                unfold isLet
                cases hx : decide (c ∈ letters.cps.toList) with
                | true => rfl
                | false =>
                  rw [hx] at hb
                  cases hb
              rw [hc, Bool.true_and]
              have hm := BW.map_getD (c :: r) (fun c => decide (c ∈ alnum.cps.toList))
              have hsz : z.cps.size = (c :: r).length := by rw [← he, Array.length_toList]
              rw [hsz]
              have ha : ∀ (n : Nat) (g : Nat → Bool), ((List.range n).all fun i => !!g i) = ((List.range n).map g).all id := fun n g => by
                rw [List.all_map]
                congr 1
                funext i
                simp
              rw [ha]
              show _ = ((List.range (c :: r).length).map fun i => decide ((c :: r).getD i default ∈ alnum.cps.toList)).all id
              rw [hm, List.all_map]
              rfl
          refine Evl.s_ret (v := .bl (isName (.str z))) (Evl.ev_is (ev_eqE (el_lcS _ _ (Evl.ev_var rfl) (by show z.length ≤ 40000; omega) (fun _ => rfl) (fun i c H2 e2 hc => ?_) (fun i c H2 e2 hc _ => ?_)) (fun y hy => ?_)) (by rw [hn])) (fun H2 e2 => q.go (e1.trans e2))
          · have hd : z.cps.toList.getD i 0 = c := by
              rw [List.getD_eq_getElem?_getD, Array.getElem?_toList, hc]
              rfl
            rw [hd]
            exact Evl.et_test (Evl.ev_op (Evl.ev_var rfl) Evl.ev_c rv_ninSign)
          · have hd : z.cps.toList.getD i 0 = c := by
              rw [List.getD_eq_getElem?_getD, Array.getElem?_toList, hc]
              rfl
            rw [hd]
            exact Evl.ev_var rfl
          · obtain ⟨i, hi, _, rfl⟩ := given_mem hy
            have hc : z.cps[i]? = some (z.cps.toList.getD i 0) := by
              rw [List.getD_eq_getElem?_getD, Array.getElem?_toList, Array.getElem?_eq_getElem hi]
              rfl
            exact .str (by show (1 : Nat) ≤ 1000; decide) (strOk_sign ok hc)
      | _ => cases hs
end
end K01
namespace K01
open PySem PySem.Spec PyProof.Rows L2 BW
def spS (f : Option (List V) → Bool) : Sp := fun vs H Q _ => ∃ (v : V) (o : Option (List V)), vs = [v] ∧ Seen H v o ∧ Evl.RetV (.bl (f o)) H Q
def namesO : Option (List V) → Bool
  | none => false
  | some xs => xs.all isName
def ltV : V → V → Bool
  | .str a, .str b => decide (a.cps.toList < b.cps.toList)
  | _, _ => false
def ascB (xs : List V) : Bool := (List.range (xs.length - 1)).all fun i => ltV (xs.getD i .non) (xs.getD (i + 1) .non)
def cellO : Option (List V) → Bool
  | none => false
  | some xs => xs.all isName && ascB xs
theorem name_str {v : V} (h : isName v = true) : ∃ z, v = .str z := by
  cases v <;> first | exact ⟨_, rfl⟩ | cases h
theorem get_str {xs : List V} (h : xs.all isName = true) {i : Nat} (hi : i < xs.length) : ∃ z, xs[i]? = some (.str z) ∧ xs.getD i .non = .str z := by
  have hx : xs[i]? = some xs[i] := List.getElem?_eq_getElem hi
  obtain ⟨z, e⟩ := name_str (List.all_eq_true.mp h _ (List.getElem_mem hi))
  refine ⟨z, by rw [hx, e], ?_⟩
  rw [List.getD_eq_getElem?_getD, hx, e]
  rfl
section
variable {P : Program} {w : World} {K : PySem.W.Frag} {mg : Str → Option Value} {base : Heap}
theorem sc_il : FnScope ["value"] ["value"] (defScope sIsList) := ⟨rfl, rfl, rfl, by decide +kernel, rfl, by decide +kernel, by decide +kernel⟩
theorem ev_isSeq {ta : TE} {σ : L2.St} {H : Hp} {v : V} {o : Option (List V)} (ha : Evl.Ev ta σ H v) (sv : Seen H v o) :
    Evl.Ev (tCB (rIsiT K) (tCons ta (tCons (tTup (tCons (tC (.ty "list")) (tCons (tC (.ty "tuple")) tNil))) tNil))) σ H (.bl o.isSome) := by
  obtain ⟨T, kd, e⟩ := sv.kind
  rw [← e]
  exact ev_isi2 ha kd (kd_list kd) (kd_tuple kd)
theorem ok_islist {f : Addr} {fd : FuncData} {k : Nat} (T : Tx mg) (F : Fun K "is_list" "is_list" sIsList f fd) : FnOk P w K mg base CX0 (k + 1) f fd ["value"] (spS Option.isSome) := by
  refine F.ok sc_il (fun vs H Q E h => ?_) (fun cdv A outer s H vs Q E hr h => ?_)
  · obtain ⟨v, o, rfl, _⟩ := h
    rfl
  · obtain ⟨v, o, rfl, sv, q⟩ := h
    refine ⟨_, pss_one (ps_ret (pe_callB call_isiT (by rfl) T.isi (by decide +kernel) (pa_cons (pv 0) (pa_cons (pe_tup (pa_cons (pe_bltn (v := .ty "list") (by rfl) T.list (by decide +kernel) rfl) (pa_cons (pe_bltn (v := .ty "tuple") (by rfl) T.tuple (by decide +kernel) rfl) pa_nil))) pa_nil)))), ?_⟩
    exact Evl.s_ret (ev_isSeq (Evl.ev_var rfl) sv) fun H1 e => q.go e
theorem sp_s {f : Option (List V) → Bool} {v : V} {o : Option (List V)} {H : Hp} (k : Seen H v o) : Evl.SpV (spS f) ([v] ++ []) H (.bl (f o)) := fun H1 e Q q _ => ⟨v, o, rfl, k.mono e, q⟩
theorem sc_an : FnScope ["value", "name"] ["value"] (defScope sAreNames) := ⟨rfl, rfl, rfl, by decide +kernel, rfl, by decide +kernel, by decide +kernel⟩
theorem ok_arenames {f fL fN : Addr} {fd fdL fdN : FuncData} {k : Nat} (T : Tx mg) (F : Fun K "are_names" "are_names" sAreNames f fd) (L : Df P w K mg base (k + 1) "is_list" ["value"] (spS Option.isSome) fL fdL) (N : Df P w K mg base (k + 1) "is_name" ["value"] (spK isName) fN fdN) :
    FnOk P w K mg base CX0 (k + 2) f fd ["value"] (spS namesO) := by
  refine F.ok sc_an (fun vs H Q E h => ?_) (fun cdv A outer s H vs Q E hr h => ?_)
  · obtain ⟨v, o, rfl, _⟩ := h
    rfl
  · obtain ⟨v, o, rfl, sv, q⟩ := h
    have nd := sc_an.nd
    refine ⟨_, pss_one (ps_ret (pe_and (pe_df L hr (pa_cons (pv 0) pa_nil)) (pe_one (pe_callB (cr_all rfl) (by rfl) T.all (by decide +kernel) (pa_cons (pe_lc (own := [("name", 1)]) (g := gName 1) (tt := tYes) rfl nd (pi_seq (pv 0))
          (blkOk_by (N := ["value", "name"]) (sc := defScope sAreNames) (by decide +kernel)) (fun _ _ _ _ _ => pg_name (i := 1) nd rfl (Or.inl rfl)) (fun _ _ _ _ _ => pts_nil)
          (fun _ _ _ _ _ => pe_df N hr (pa_cons (pv 1) pa_nil))) pa_nil))))), ?_⟩
    refine Evl.s_ret (v := .bl (namesO o)) ?_ fun H1 e => q.go e
    cases o with
    | none => exact Evl.ev_andV (a := false) (b := false) (Evl.ev_call (Evl.ea_cons (Evl.ev_var rfl) Evl.ea_nil) (sp_s sv)) (fun z => nomatch z)
    | some xs =>
      obtain ⟨a, rfl, hx, hl, he⟩ := sv.seq (K := K)
      refine Evl.ev_andV (a := true) (b := xs.all isName) (Evl.ev_call (Evl.ea_cons (Evl.ev_var rfl) Evl.ea_nil) (sp_s sv)) (fun _ => ?_)
      rw [← all_range_get xs isName]
      refine ev_all ?_
      rw [← given_bls]
      refine el_lcX (fun _ => true) _ (Evl.ev_var rfl) hx (by omega) (fun _ => rfl) (fun i x H1 e1 hi => fun H2 e2 Q q => q H2 (Evl.Ex.refl H2)) (fun i x H1 e1 hi _ => ?_)
      have hg : xs.getD i .non = x := by
        rw [List.getD_eq_getElem?_getD, hi]
        rfl
      rw [hg]
      obtain ⟨t, kx⟩ := (he x (List.mem_of_getElem? hi)).knd
      exact Evl.ev_call (Evl.ea_cons (Evl.ev_var rfl) Evl.ea_nil) (sp_k (kx.mono e1))
theorem sc_ic : FnScope ["value", "at"] ["value"] (defScope sIsCell) := ⟨rfl, rfl, rfl, by decide +kernel, rfl, by decide +kernel, by decide +kernel⟩
theorem rv_ltS {a b : Str} {H : Hp} : Evl.RV (fun x y H Q => ∃ i j, x = .str i ∧ y = .str j ∧ Q (.bl (decide (i.cps.toList < j.cps.toList))) H) (.str a) (.str b) H (.bl (ltV (.str a) (.str b))) := fun H1 _ _ q => ⟨a, b, rfl, rfl, q H1 (Evl.Ex.refl H1)⟩
theorem ok_iscell {f fN : Addr} {fd fdN : FuncData} {k : Nat} (T : Tx mg) (F : Fun K "is_cell" "is_cell" sIsCell f fd) (N : Df P w K mg base (k + 1) "are_names" ["value"] (spS namesO) fN fdN) : FnOk P w K mg base CX0 (k + 2) f fd ["value"] (spS cellO) := by
  refine F.ok sc_ic (fun vs H Q E h => ?_) (fun cdv A outer s H vs Q E hr h => ?_)
  · obtain ⟨v, o, rfl, _⟩ := h
    rfl
  · obtain ⟨v, o, rfl, sv, q⟩ := h
    have nd := sc_ic.nd
    refine ⟨_, pss_cons (ps_if (pt_not (pt_val (pe_df N hr (pa_cons (pv 0) pa_nil)))) (pss_one (ps_ret pe_bl)) pss_nil)
      (pss_one (ps_ret (pe_callB (cr_all rfl) (by rfl) T.all (by decide +kernel) (pa_cons (pe_lc (own := [("at", 1)]) (g := gName 1) (tt := tYes) rfl nd (pi_range1 rfl T.rng (pa_cons (pe_op op_sub (pe_callB call_len_seq (by rfl) T.len PySem.boot_len (pa_cons (pv 0) pa_nil)) pe_int) pa_nil))
          (blkOk_by (N := ["value", "at"]) (sc := defScope sIsCell) (by decide +kernel)) (fun _ _ _ _ _ => pg_name (i := 1) nd rfl (Or.inl rfl)) (fun _ _ _ _ _ => pts_nil)
          (fun _ _ _ _ _ => pe_cmpR op_lt_str (pe_ix (show IxR _ (rIxX K) from ix_seq) (pv 0) (pv 1) (fun _ _ => rfl)) (pe_ix (show IxR _ (rIxX K) from ix_seq) (pv 0) (pe_op op_add (pv 1) pe_int) (fun _ _ => rfl)) (by rfl))) pa_nil)))), ?_⟩
    refine Evl.q_when (b := !namesO o) (Evl.et_not (Evl.et_B (Evl.ev_call (Evl.ea_cons (Evl.ev_var rfl) Evl.ea_nil) (sp_s sv)))) (fun hb H1 e1 => ?_) (fun hb H1 e1 => ?_)
    · refine Evl.s_ret Evl.ev_c fun H2 e2 => ?_
      have hn : cellO o = false := by
        cases o with
        | none => rfl
        | some xs =>
          have hx : xs.all isName = false := by
            cases h : xs.all isName with
            | false => rfl
            | true =>
              have hb' : (!(xs.all isName)) = true := hb
              rw [h] at hb'
              cases hb'
          show (xs.all isName && ascB xs) = false
          rw [hx]
          rfl
      rw [hn] at q
      exact q.go (e1.trans e2)
    · cases o with
      | none => cases hb
      | some xs =>
        have hx : xs.all isName = true := by
          cases h : xs.all isName with
          | true => rfl
          | false =>
            have hb' : (!(xs.all isName)) = false := hb
            rw [h] at hb'
            cases hb'
        obtain ⟨a, rfl, hs, hl, he⟩ := (sv.mono e1).seq (K := K)
        refine Evl.s_ret (v := .bl (ascB xs)) ?_ fun H2 e2 => ?_
        · have hasc : ascB xs = ((List.range ((xs.length : Int) - 1).toNat).map fun i => ltV (xs.getD i .non) (xs.getD (i + 1) .non)).all id := by
            rw [List.all_map]
            have e0 : ((xs.length : Int) - 1).toNat = xs.length - 1 := by omega
            rw [e0]
            rfl
          rw [hasc]
          refine ev_all ?_
          rw [← given_bls]
          refine el_lcRg (fun _ => true) _ (Evl.ea_cons (Evl.ev_op (Evl.ev_cb (Evl.ea_cons (Evl.ev_var rfl) Evl.ea_nil) (fun H2 e2 Q q => ⟨a, xs, rfl, hs.ex e2, q H2 (Evl.Ex.refl H2)⟩)) Evl.ev_c Evl.rv_I0) Evl.ea_nil) (by omega) (fun _ => rfl)
            (fun i H2 e2 hi => fun H3 e3 Q q => q H3 (Evl.Ex.refl H3)) (fun i H2 e2 hi _ => ?_)
          obtain ⟨z, hz, gz⟩ := get_str hx (i := i) (by omega)
          obtain ⟨y, hy, gy⟩ := get_str hx (i := i + 1) (by omega)
          rw [gz, gy]
          exact Evl.ev_op (Evl.ev_op (Evl.ev_var rfl) (Evl.ev_var rfl) (rv_ixX (hs.ex e2) (atI_nat hz))) (Evl.ev_op (Evl.ev_var rfl) (Evl.ev_op (Evl.ev_var rfl) Evl.ev_c Evl.rv_I0) (rv_ixX (hs.ex e2) (atI_nat (j := i + 1) hy))) rv_ltS
        · have hn : cellO (some xs) = ascB xs := by
            show (xs.all isName && ascB xs) = ascB xs
            rw [hx]
            rfl
          rw [hn] at q
          exact q.go (e1.trans e2)
end
end K01
namespace K01
open PySem PySem.Spec PyProof.Rows L2 BW
theorem Elm_ok {H : Hp} {v : V} (k : Elm H v) : okV v := by
  cases k with
  | str h ok => exact ok
  | _ => exact True.intro
def spSo (f : Option (List V) → Bool) : Sp := fun vs H Q _ => ∃ (v : V) (o : Option (List V)), vs = [v] ∧ Seen H v o ∧ Evl.RetV (.bl (f o)) H Q
/-- the tuple of the length and the names -/
def KeyP (K : PySem.W.Frag) (xs : List V) : V → Hp → Prop := fun v H => ∃ p t, v = .ref p ∧ H p = some (.tup [.int (xs.length : Int), .ref t]) ∧ SqT K H t xs
theorem mon_key {K : PySem.W.Frag} {xs : List V} : Mon (KeyP K xs) := fun v H H' e h => by
  obtain ⟨p, t, rfl, hp, ht⟩ := h
  exact ⟨p, t, rfl, e _ _ hp, Evl.ex_t e ht⟩
def TupX (K : PySem.W.Frag) (xs : List V) : V → Hp → Prop := fun v H => ∃ t, v = .ref t ∧ SqT K H t xs
theorem mon_tupX {K : PySem.W.Frag} {xs : List V} : Mon (TupX K xs) := fun v H H' e h => by
  obtain ⟨t, rfl, ht⟩ := h
  exact ⟨t, rfl, Evl.ex_t e ht⟩
def spKey (K : PySem.W.Frag) : Sp := fun vs H Q _ => ∃ (a : Addr) (xs : List V), vs = [.ref a] ∧ SqX K H a xs ∧ xs.length ≤ 20 ∧ ∀ v H', Evl.Ex H H' → KeyP K xs v H' → Q v H'
def textOf (ys : List Str) : Str := if ys.length = 0 then "-" else Txt.join "+" ys
def smallS (ys : List Str) : Prop := ys.length ≤ 20 ∧ ∀ y ∈ ys, y.length ≤ 12
theorem small_sum : ∀ {ys : List Str}, (∀ y ∈ ys, y.length ≤ 12) → (ys.map (·.length)).sum ≤ 12 * ys.length
  | [], _ => Nat.zero_le _
  | y :: ys, h => by
    have h1 := h y (List.mem_cons_self ..)
    have h2 := small_sum fun z hz => h z (List.mem_cons_of_mem y hz)
    rw [List.map_cons, List.sum_cons, List.length_cons]
    omega
theorem small_join {ys : List Str} (h : smallS ys) : (ys.map (·.length)).sum + ys.length * (Str.ofString "+").length ≤ 16777216 := by
  have h1 := small_sum h.2
  have h2 := h.1
  have h3 : (Str.ofString "+").length = 1 := rfl
  rw [h3]
  omega
def spText (K : PySem.W.Frag) : Sp := fun vs H Q _ => ∃ (a : Addr) (ys : List Str), vs = [.ref a] ∧ SqX K H a (ys.map V.str) ∧ smallS ys ∧ Evl.RetV (.str (textOf ys)) H Q
section
variable {P : Program} {w : World} {K : PySem.W.Frag} {mg : Str → Option Value} {base : Heap}
theorem evp_tupOf {te : TE} {σ : L2.St} {H : Hp} {a : Addr} {xs : List V} (h : Evl.Ev te σ H (.ref a)) (hx : SqX K H a xs) :
    Evp (tCB (fun xs H Q => ∃ p ys, xs = [.ref p] ∧ ((SqL K H p ys ∧ ∀ l, H l = none → Q (.ref l) (upd H l (.tup ys))) ∨ (SqT K H p ys ∧ Q (.ref p) H))) (tCons te tNil)) σ H (TupX K xs) := fun H1 e Q q =>
  h H1 e _ fun H2 e2 => ⟨a, xs, rfl, (hx.ex (e.trans e2)).elim (fun hl => .inl ⟨hl, fun l nl => q _ _ (e2.trans (Evl.Ex.new nl)) ⟨l, rfl, Evl.st_of upd_same⟩⟩) (fun ht => .inr ⟨ht, q _ _ e2 ⟨a, rfl, ht⟩⟩)⟩
theorem evp_key {ta tb : TE} {σ : L2.St} {H : Hp} {xs : List V} (ha : Evl.Ev ta σ H (.int (xs.length : Int))) (hb : Evp tb σ H (TupX K xs)) : Evp (tTup (tCons ta (tCons tb tNil))) σ H (KeyP K xs) := fun H1 e Q q =>
  ha H1 e _ fun H2 e2 => hb H2 (e.trans e2) _ fun v H3 e3 ⟨t, ev, ht⟩ => ⟨(by show 2 ≤ sizeLine; decide), fun p hp => by
    subst ev
    exact q _ _ ((e2.trans e3).trans (Evl.Ex.new hp)) ⟨p, t, rfl, upd_same, Evl.ex_t (Evl.Ex.new hp) ht⟩⟩
theorem ev_lenR {te : TE} {σ : L2.St} {H : Hp} {a : Addr} {xs : List V} (h : Evl.Ev te σ H (.ref a)) (hx : SqX K H a xs) :
    Evl.Ev (tCB (fun xs H Q => ∃ p ys, xs = [.ref p] ∧ (SqL K H p ys ∨ SqT K H p ys) ∧ Q (.int ys.length) H) (tCons te tNil)) σ H (.int (xs.length : Int)) :=
  Evl.ev_cb (Evl.ea_cons h Evl.ea_nil) fun H2 e2 Q q => ⟨a, xs, rfl, hx.ex e2, q H2 (Evl.Ex.refl H2)⟩
theorem sc_ck : FnScope ["cell"] ["cell"] (defScope sCellKey) := ⟨rfl, rfl, rfl, by decide +kernel, rfl, by decide +kernel, by decide +kernel⟩
theorem ok_cellkey {f : Addr} {fd : FuncData} {k : Nat} (T : Tx mg) (F : Fun K "cell_key" "cell_key" sCellKey f fd) : FnOk P w K mg base CX0 (k + 1) f fd ["cell"] (spKey K) := by
  refine F.ok sc_ck (fun vs H Q E h => ?_) (fun cdv A outer s H vs Q E hr h => ?_)
  · obtain ⟨a, xs, rfl, _⟩ := h
    rfl
  · obtain ⟨a, xs, rfl, hx, hl, q⟩ := h
    refine ⟨_, pss_one (ps_ret (pe_tup (pa_cons (pe_callB call_len_seq (by rfl) T.len PySem.boot_len (pa_cons (pv 0) pa_nil)) (pa_cons (pe_callTy call_tuple_of (by rfl) T.tuple (by decide +kernel) (pa_cons (pv 0) pa_nil)) pa_nil)))), ?_⟩
    exact s_retP (evp_key (ev_lenR (Evl.ev_var rfl) hx) (evp_tupOf (Evl.ev_var rfl) hx)) fun v H1 e p => q v H1 e p
theorem sc_ct : FnScope ["cell"] ["cell"] (defScope sCellText) := ⟨rfl, rfl, rfl, by decide +kernel, rfl, by decide +kernel, by decide +kernel⟩
theorem ev_joinX {to te : TE} {σ : L2.St} {H : Hp} {a : Addr} {ys : List Str} (ho : Evl.Ev to σ H (.str (Str.ofString "+"))) (h : Evl.Ev te σ H (.ref a)) (hx : SqX K H a (ys.map V.str)) (hs : smallS ys) :
    Evl.Ev (tM1 (fun x xs H Q => ∃ a p, ∃ ys : List Str, x = .str a ∧ xs = [.ref p] ∧ (SqL K H p (ys.map V.str) ∨ SqT K H p (ys.map V.str)) ∧ (ys.map (·.length)).sum + ys.length * a.length ≤ 16777216 ∧ Q (.str (Txt.join a ys)) H) to te) σ H (.str (Txt.join (Str.ofString "+") ys)) := fun H1 e Q q =>
  ho H1 e _ fun H2 e2 => ⟨⟨_, rfl⟩, h H2 (e.trans e2) _ fun H3 e3 => ⟨_, a, ys, rfl, rfl, hx.ex ((e.trans e2).trans e3), small_join hs, q H3 (e2.trans e3)⟩⟩
theorem ok_celltext {f : Addr} {fd : FuncData} {k : Nat} (T : Tx mg) (F : Fun K "cell_text" "cell_text" sCellText f fd) : FnOk P w K mg base CX0 (k + 1) f fd ["cell"] (spText K) := by
  refine F.ok sc_ct (fun vs H Q E h => ?_) (fun cdv A outer s H vs Q E hr h => ?_)
  · obtain ⟨a, xs, rfl, _⟩ := h
    rfl
  · obtain ⟨a, ys, rfl, hx, hs, q⟩ := h
    refine ⟨_, pss_cons (ps_if (pt_cmpR op_eq (pe_callB call_len_seq (by rfl) T.len PySem.boot_len (pa_cons (pv 0) pa_nil)) pe_int (nomark _)) (pss_one (ps_ret pe_str)) pss_nil)
      (pss_one (ps_ret (pe_join pe_str (pv 0)))), ?_⟩
    have hl : (ys.map V.str).length = ys.length := List.length_map ..
    refine Evl.q_when (b := decide (V.int ((ys.map V.str).length : Int) = V.int 0)) (Evl.et_test (Evl.ev_op (ev_lenR (Evl.ev_var rfl) hx) Evl.ev_c (Evl.rv_eq rfl))) (fun hb H1 e1 => ?_) (fun hb H1 e1 => ?_)
    · have h0 : ys.length = 0 := by
        have := of_decide_eq_true hb
        injection this with this
        omega
      refine Evl.s_ret Evl.ev_c fun H2 e2 => ?_
      unfold textOf at q
      rw [if_pos h0] at q
      exact q.go (e1.trans e2)
    · have h0 : ¬ ys.length = 0 := fun h => by
        rw [hl, h] at hb
        cases hb
      refine Evl.s_ret (ev_joinX (K := K) Evl.ev_c (Evl.ev_var rfl) (hx.ex e1) hs) fun H2 e2 => ?_
      unfold textOf at q
      rw [if_neg h0] at q
      exact q.go (e1.trans e2)
/-! ### the law's own cells -/
theorem sc_lc : FnScope ["_law_value_here", "_law_name_here", "_law_at"] ["_law_value_here"] (defScope sLCell) := ⟨rfl, rfl, rfl, by decide +kernel, rfl, by decide +kernel, by decide +kernel⟩
theorem sp_ko {g : V → Bool} {v : V} {T : String} {H : Hp} (k : Knd H v T) (ok : okV v) : Evl.SpV (spKo g) ([v] ++ []) H (.bl (g v)) := fun H1 e Q q _ => ⟨v, T, rfl, k.mono e, ok, q⟩
theorem rv_geS {a b : Str} {H : Hp} : Evl.RV (fun x y H Q => ∃ i j, x = .str i ∧ y = .str j ∧ Q (.bl (!decide (i.cps.toList < j.cps.toList))) H) (.str a) (.str b) H (.bl (!ltV (.str a) (.str b))) := fun H1 _ _ q => ⟨a, b, rfl, rfl, q H1 (Evl.Ex.refl H1)⟩
theorem none_odd (xs : List V) : (Evl.given xs.length (fun i => !isName (xs.getD i .non)) (fun i => xs.getD i .non)).isEmpty = xs.all isName := by
  rw [given_empty, ← all_range_get xs isName, List.all_map]
  congr 1
  funext i
  simp
theorem ok_lcell {f fN : Addr} {fd fdN : FuncData} {k : Nat} (T : Tx mg) (F : Fun K "_law_is_cell" "_law_is_cell" sLCell f fd) (N : Df P w K mg base (k + 1) "_law_is_name" ["_law_value_here"] (spKo isName) fN fdN) : FnOk P w K mg base CX0 (k + 2) f fd ["_law_value_here"] (spS cellO) := by
  refine F.ok sc_lc (fun vs H Q E h => ?_) (fun cdv A outer s H vs Q E hr h => ?_)
  · obtain ⟨v, o, rfl, _⟩ := h
    rfl
  · obtain ⟨v, o, rfl, sv, q⟩ := h
    have nd := sc_lc.nd
    refine ⟨_, pss_cons (ps_if (PW.pt (pw_or (pt_not (pt_val (pe_callB call_isiT (by rfl) T.isi (by decide +kernel) (pa_cons (pv 0) (pa_cons (pe_tup (pa_cons (pe_bltn (v := .ty "list") (by rfl) T.list (by decide +kernel) rfl) (pa_cons (pe_bltn (v := .ty "tuple") (by rfl) T.tuple (by decide +kernel) rfl) pa_nil))) pa_nil)))))
        (pw_or1 (pt_cmpR (op_neD hr.units) (pe_lc (own := [("_law_name_here", 1)]) (g := gName 1) rfl nd (pi_seq (pv 0))
          (blkOk_by (N := ["_law_value_here", "_law_name_here", "_law_at"]) (sc := defScope sLCell) (by decide +kernel)) (fun _ _ _ _ _ => pg_name (i := 1) nd rfl (Or.inl rfl)) (fun _ _ _ _ _ => pts_one (pt_not (pt_val (pe_df N hr (pa_cons (pv 1) pa_nil)))))
          (fun _ _ _ _ _ => pv 1)) (pe_lst pa_nil) (nomark _)))))
        (pss_one (ps_ret pe_bl)) pss_nil)
      (pss_one (ps_ret (pe_cmpR (op_eqD hr.units) (pe_lc (own := [("_law_at", 2)]) (g := gName 2) rfl nd (pi_range2 rfl T.rng (pa_cons pe_int (pa_cons (pe_callB call_len_seq (by rfl) T.len PySem.boot_len (pa_cons (pv 0) pa_nil)) pa_nil)))
          (blkOk_by (N := ["_law_value_here", "_law_name_here", "_law_at"]) (sc := defScope sLCell) (by decide +kernel)) (fun _ _ _ _ _ => pg_name (i := 2) nd rfl (Or.inl rfl))
          (fun _ _ _ _ _ => pts_one (pt_cmpR op_ge_str (pe_ix (show IxR _ (rIxX K) from ix_seq) (pv 0) (pe_op op_sub (pv 2) pe_int) (fun _ _ => rfl)) (pe_ix (show IxR _ (rIxX K) from ix_seq) (pv 0) (pv 2) (fun _ _ => rfl)) (by rfl)))
          (fun _ _ _ _ _ => pv 2)) (pe_lst pa_nil) (nomark _)))), ?_⟩
    cases o with
    | none =>
      refine Evl.q_when (b := true) (Evl.et_or (a := true) (b := true) (Evl.et_is (Evl.et_not (Evl.et_B (ev_isSeq (Evl.ev_var rfl) sv))) rfl) (fun z => nomatch z)) (fun _ H1 e1 => ?_) (fun z => nomatch z)
      exact Evl.s_ret Evl.ev_c fun H2 e2 => q.go (e1.trans e2)
    | some xs =>
      obtain ⟨a, rfl, hx, hl, he⟩ := sv.seq (K := K)
      have gd : ∀ {i : Nat} {x : V}, xs[i]? = some x → xs.getD i .non = x := fun {i x} hi => by
        rw [List.getD_eq_getElem?_getD, hi]
        rfl
      refine Evl.q_when (b := !xs.all isName) (Evl.et_or (a := false) (b := !xs.all isName) (Evl.et_is (Evl.et_not (Evl.et_B (ev_isSeq (Evl.ev_var rfl) sv))) rfl) (fun _ => Evl.et_test (Evl.ev_is (ev_neE (ys := Evl.given xs.length (fun i => !isName (xs.getD i .non)) (fun i => xs.getD i .non)) (el_lcX _ _ (Evl.ev_var rfl) hx (by omega) (fun _ => rfl)
          (fun i x H1 e1 hi => ?_) (fun i x H1 e1 hi _ => ?_)) (fun y hy => ?_)) (by rw [none_odd])))) (fun hb H1 e1 => ?_) (fun hb H1 e1 => ?_)
      · rw [gd hi]
        obtain ⟨t, kx⟩ := (he x (List.mem_of_getElem? hi)).knd
        exact Evl.et_not (Evl.et_B (Evl.ev_call (Evl.ea_cons (Evl.ev_var rfl) Evl.ea_nil) (sp_ko (kx.mono e1) (Elm_ok (he x (List.mem_of_getElem? hi))))))
      · rw [gd hi]
        exact Evl.ev_var rfl
      · obtain ⟨i, hi, _, rfl⟩ := given_mem hy
        have hxi : xs[i]? = some xs[i] := List.getElem?_eq_getElem hi
        rw [gd hxi]
        exact he _ (List.getElem_mem hi)
      · refine Evl.s_ret Evl.ev_c fun H2 e2 => ?_
        have hn : cellO (some xs) = false := by
          have hx : xs.all isName = false := by
            cases h : xs.all isName with
            | false => rfl
            | true =>
              rw [h] at hb
              cases hb
          show (xs.all isName && ascB xs) = false
          rw [hx]
          rfl
        rw [hn] at q
        exact q.go (e1.trans e2)
      · have hn : xs.all isName = true := by
          cases h : xs.all isName with
          | true => rfl
          | false =>
            rw [h] at hb
            cases hb
        have hasc : (Evl.given ((xs.length : Int) - 1).toNat (fun i => !ltV (xs.getD i .non) (xs.getD (i + 1) .non)) (fun i => V.int (1 + (i : Int)))).isEmpty = cellO (some xs) := by
          rw [given_empty]
          show _ = (xs.all isName && ascB xs)
          rw [hn, Bool.true_and]
          unfold ascB
          have e0 : ((xs.length : Int) - 1).toNat = xs.length - 1 := by omega
          rw [e0]
          congr 1
          funext i
          simp
        refine Evl.s_ret (v := .bl (cellO (some xs))) (Evl.ev_is (ev_eqE (el_lcRg2 _ _ (Evl.ea_cons Evl.ev_c (Evl.ea_cons (ev_lenR (Evl.ev_var rfl) (hx.ex e1)) Evl.ea_nil)) (by omega) (fun _ => rfl)
          (fun i H2 e2 hi => ?_) (fun i H2 e2 hi _ => Evl.ev_var rfl)) (fun y hy => ?_)) (by rw [hasc])) fun H2 e2 => q.go (e1.trans e2)
        · obtain ⟨z, hz, gz⟩ := get_str hn (i := i) (by omega)
          obtain ⟨y, hy, gy⟩ := get_str hn (i := i + 1) (by omega)
          rw [gz, gy]
          refine Evl.et_test (Evl.ev_op (Evl.ev_op (Evl.ev_var rfl) (Evl.ev_op (Evl.ev_var rfl) Evl.ev_c Evl.rv_I0) (rv_ixX ((hx.ex e1).ex e2) ?_)) (Evl.ev_op (Evl.ev_var rfl) (Evl.ev_var rfl) (rv_ixX ((hx.ex e1).ex e2) ?_)) rv_geS)
          · have e9 : (1 + (i : Int)) - 1 = (i : Int) := by omega
            rw [e9]
            exact atI_nat hz
          · have e9 : (1 + (i : Int)) = ((i + 1 : Nat) : Int) := by omega
            rw [e9]
            exact atI_nat hy
        · obtain ⟨i, hi, _, rfl⟩ := given_mem hy
          exact .int _
end
end K01
namespace K01
open PySem PySem.Spec PyProof.Rows L2 BW
abbrev sVRight : Stmt := topS 29
theorem Df_mono {P : Program} {w : World} {K : PySem.W.Frag} {mg : Str → Option Value} {base : Heap} {j k : Nat} {nm : Str} {ps : List Str} {sp : Sp} {f : Addr} {fd : FuncData} (D : Df P w K mg base j nm ps sp f fd) (h : j ≤ k) : Df P w K mg base k nm ps sp f fd := ⟨D.ok.mono h, D.b, D.g, D.kp⟩
theorem el_cat {ta tb : TE} {σ : L2.St} {H : Hp} {p : Addr} {xs ys : List V} (ha : Evl.Ev ta σ H (.ref p)) (hp : H p = some (.lst xs)) (hb : Evl.EvL tb σ H ys) (hl : xs.length + ys.length ≤ 100000) : Evl.EvL (tOp rCat ta tb) σ H (xs ++ ys) := fun H1 e Q q =>
  ha H1 e _ fun H2 e2 => hb H2 (e.trans e2) _ fun p' H3 _ e3 hp' => ⟨p, p', xs, ys, rfl, rfl, e3 _ _ (e2 _ _ (e _ _ hp)), hp', Evl.sz_of hl, fun o no => q o _ (Evl.fresh_back (e2.trans e3) no) ((e2.trans e3).trans (Evl.Ex.new no)) upd_same⟩
theorem dp_bls (K : PySem.W.Frag) (H : Hp) : ∀ bs : List Bool, DpAll K H (bs.map V.bl) (bs.map PyData.bool)
  | [] => .nil
  | b :: bs => .cons (.bl b) (dp_bls K H bs)
theorem lay_bls : ∀ bs : List Bool, PyData.canLayAll0 (bs.map PyData.bool) = true
  | [] => rfl
  | b :: bs => lay_bls bs
theorem deep_bls : ∀ bs : List Bool, PyData.depthAll (bs.map PyData.bool) = 0
  | [] => rfl
  | b :: bs => by
    show max 0 (PyData.depthAll (bs.map PyData.bool)) = 0
    rw [deep_bls bs]
    rfl
theorem ev_neBls {K : PySem.W.Frag} {ta tb : TE} {σ : L2.St} {H : Hp} {p q : Addr} {bs : List Bool} (ha : Evl.Ev ta σ H (.ref p)) (hb : Evl.Ev tb σ H (.ref q)) (hp : H p = some (.lst (bs.map V.bl))) (hq : H q = some (.lst (bs.map V.bl))) : Evl.Ev (tOp (rNeD K) ta tb) σ H (.bl false) :=
  Evl.ev_op ha hb fun H1 e Q k => by
    have hs : SeqAt.shaped (.list (bs.map PyData.bool)) = true := shaped_of (lay_bls bs) (by rw [deep_bls]; decide)
    refine ⟨_, _, .lst (Evl.sq_of (e _ _ hp)) (dp_bls K H1 bs), .lst (Evl.sq_of (e _ _ hq)) (dp_bls K H1 bs), hs, hs, ?_⟩
    rw [PySem.SeqAt.eqv_refl _ (show PyData.canLay0 (.list (bs.map PyData.bool)) = true from lay_bls bs)]
    exact k H1 (Evl.Ex.refl H1)
/-- two such tuples are equal -/
theorem ev_eqKeys {K : PySem.W.Frag} {ta tb : TE} {σ : L2.St} {H : Hp} {ys : List Str} (ok : ∀ y ∈ ys, PySem.PyData.strOk y = true) (ha : Evp ta σ H (KeyP K (ys.map V.str))) (hb : Evp tb σ H (KeyP K (ys.map V.str))) : Evl.Ev (tOp (rEqD K) ta tb) σ H (.bl true) := fun H1 e Q q =>
  ha H1 e _ fun v H2 e2 p2 => hb H2 (e.trans e2) _ fun v' H3 e3 p3 => by
    obtain ⟨p, t, rfl, hp, ht⟩ := mon_key _ _ _ e3 p2
    obtain ⟨p', t', rfl, hp', ht'⟩ := p3
    have d1 : ∀ (p t : Addr), H3 p = some (.tup [.int ((ys.map V.str).length : Int), .ref t]) → SqT K H3 t (ys.map V.str) → Dp K H3 (.ref p) (.tuple [.int ((ys.map V.str).length : Int), .tuple (ys.map PyData.str)]) := fun p t hp ht =>
      .tup (Evl.st_of hp) (.cons (.int _) (.cons (.tup ht (dp_strs ys)) .nil))
    have hl : PyData.canLay0 (.tuple [.int ((ys.map V.str).length : Int), .tuple (ys.map PyData.str)]) = true := by
      show (true && (PyData.canLayAll0 (ys.map PyData.str) && true)) = true
      rw [lay_strs ok]
      rfl
    have hs : SeqAt.shaped (.tuple [.int ((ys.map V.str).length : Int), .tuple (ys.map PyData.str)]) = true := by
      show (PyData.canLay0 _ && decide (PyData.depth _ ≤ 64)) = true
      rw [hl]
      have hd : PyData.depth (.tuple [.int ((ys.map V.str).length : Int), .tuple (ys.map PyData.str)]) = 2 := by
        show max 0 (max (PyData.depthAll (ys.map PyData.str) + 1) 0) + 1 = 2
        rw [deep_strs]
        rfl
      rw [hd]
      rfl
    refine ⟨_, _, d1 p t hp ht, d1 p' t' hp' ht', hs, hs, ?_⟩
    rw [PySem.SeqAt.eqv_refl _ hl]
    exact q H3 (e2.trans e3)
theorem cell_strs {xs : List V} (h : xs.all isName = true) : ∃ ys : List Str, xs = ys.map V.str ∧ ∀ y ∈ ys, y.length ≤ 12 ∧ nameB y = true := by
  induction xs with
  | nil => exact ⟨[], rfl, fun y h => nomatch h⟩
  | cons x xs ih =>
    rw [List.all_cons, Bool.and_eq_true] at h
    obtain ⟨z, rfl⟩ := name_str h.1
    obtain ⟨ys, e, k⟩ := ih h.2
    refine ⟨z :: ys, by rw [e]; rfl, fun y hy => ?_⟩
    rcases List.mem_cons.mp hy with rfl | hy
    · have hn : nameB y = true := h.1
      refine ⟨?_, hn⟩
      unfold nameB at hn
      split at hn
      · cases hn
      · rw [Bool.and_eq_true] at hn
        exact of_decide_eq_true hn.1
    · exact k y hy
theorem ev_callP {sp : Sp} {dvs : List V} {E : XK} {te : TE} {σ : L2.St} {H : Hp} {z : V} {R : V → Hp → Prop} (h : Evp te σ H R) (hs : ∀ v H1, Evl.Ex H H1 → R v H1 → ∀ Q : VK, (∀ H2, Evl.Ex H1 H2 → Q z H2) → ∀ E : XK, sp ([v] ++ dvs) H1 Q E) :
    Evl.Ev (tCall sp dvs E (tCons te tNil)) σ H z := fun H1 e Q q => h H1 e _ fun v H2 e2 p => hs v H2 (e.trans e2) p Q (fun H3 e3 => q H3 (e2.trans e3)) E
section
variable {P : Program} {w : World} {K : PySem.W.Frag} {mg : Str → Option Value} {base : Heap}
theorem sc_vr : FnScope ["_law_value_here", "_law_least", "_law_most", "_law_plain", "_law_within", "_law_due", "_law_told", "_law_one", "_law_text"] ["_law_value_here", "_law_least", "_law_most"] (defScope sVRight) := ⟨rfl, rfl, rfl, by decide +kernel, rfl, by decide +kernel, by decide +kernel⟩
def spVR : Sp := fun vs H Q _ => ∃ (v lo hi : V) (o : Option (List V)), vs = [v, lo, hi] ∧ Seen H v o ∧ okV v ∧ noB lo ∧ noB hi ∧ Evl.RetV (.bl true) H Q
/-- the defs that the law's look at a value calls -/
structure Vr (P : Program) (w : World) (K : PySem.W.Frag) (mg : Str → Option Value) (base : Heap) (k : Nat) : Prop where
  I : ∃ f fd, Df P w K mg base k "is_integer" ["value"] (spK isP) f fd ∧ KBn K fd ["value"] 0 ["value"] (fun _ ws => ws) (fun _ zs => zs)
  W : ∃ f fd, Df P w K mg base k "is_within" ["value", "least", "most"] spWithin f fd ∧ KBn K fd ["value", "least", "most"] 0 ["most", "least", "value"] (fun _ ws => ws.reverse) (fun _ zs => zs.reverse)
  N : ∃ f fd, Df P w K mg base k "is_name" ["value"] (spK isName) f fd ∧ KBn K fd ["value"] 0 ["value"] (fun _ ws => ws) (fun _ zs => zs)
  C : ∃ f fd, Df P w K mg base k "is_cell" ["value"] (spS cellO) f fd ∧ KBn K fd ["value"] 0 ["value"] (fun _ ws => ws) (fun _ zs => zs)
  LP : ∃ f fd, Df P w K mg base k "_law_is_plain" ["_law_value_here"] (spK isP) f fd
  LN : ∃ f fd, Df P w K mg base k "_law_is_name" ["_law_value_here"] (spKo isName) f fd
  LC : ∃ f fd, Df P w K mg base k "_law_is_cell" ["_law_value_here"] (spS cellO) f fd
  CK : ∃ f fd, Df P w K mg base k "cell_key" ["cell"] (spKey K) f fd ∧ KBn K fd ["cell"] 0 ["cell"] (fun _ ws => ws) (fun _ zs => zs)
  CT : ∃ f fd, Df P w K mg base k "cell_text" ["cell"] (spText K) f fd ∧ KBn K fd ["cell"] 0 ["cell"] (fun _ ws => ws) (fun _ zs => zs)
theorem sp_w {v lo hi : V} {T : String} {H : Hp} (k : Knd H v T) (h1 : noB lo) (h2 : noB hi) : Evl.SpV spWithin [v, lo, hi] H (.bl (inB v lo hi)) := fun H1 e Q q _ => ⟨v, lo, hi, T, rfl, k.mono e, h1, h2, q⟩
theorem ev_isNb {i : Nat} {u : V} {σ : L2.St} {H : Hp} {b : Bool} (hs : σ[i]? = some (some u)) (e : decide (u = .non) = b) : Evl.Ev (tOp (fun x y H Q => y = .non ∧ Q (.bl (decide (x = .non))) H) (tVar i) (tC .non)) σ H (.bl b) := by
  subst e
  exact Evl.ev_op (Evl.ev_var hs) Evl.ev_c fun H1 _ _ q => ⟨rfl, q H1 (Evl.Ex.refl H1)⟩
theorem ok_vright {f : Addr} {fd : FuncData} {k : Nat} (T : Tx mg) (R : Vr P w K mg base (k + 1)) (F : Fun K "_law_value_right" "_law_value_right" sVRight f fd) : FnOk P w K mg base CX0 (k + 2) f fd ["_law_value_here", "_law_least", "_law_most"] spVR := by
  obtain ⟨fI, dI, I, bI⟩ := R.I
  obtain ⟨fW, dW, W, bW⟩ := R.W
  obtain ⟨fN, dN, N, bN⟩ := R.N
  obtain ⟨fC, dC, C, bC⟩ := R.C
  obtain ⟨fLP, dLP, LP⟩ := R.LP
  obtain ⟨fLN, dLN, LN⟩ := R.LN
  obtain ⟨fLC, dLC, LC⟩ := R.LC
  obtain ⟨fCK, dCK, CK, bCK⟩ := R.CK
  obtain ⟨fCT, dCT, CT, bCT⟩ := R.CT
  refine F.ok sc_vr (fun vs H Q E h => ?_) (fun cdv A outer s H vs Q E hr h => ?_)
  · obtain ⟨v, lo, hi, o, rfl, _⟩ := h
    rfl
  · obtain ⟨v, lo, hi, o, rfl, sv, okv, h1, h2, q⟩ := h
    have nd := sc_vr.nd
    obtain ⟨t, kd, _⟩ := sv.kind
    refine ⟨_, pss_cons (ps_set (i := 3) nd rfl (.inl rfl) (pe_df LP hr (pa_cons (pv 0) pa_nil)))
      (pss_cons (ps_set (i := 4) nd rfl (.inl rfl) (pe_and (pv 3) (pe_and (pe_or (pe_cmpR op_isN (pv 1) pe_non (nomark _)) (pe_one (pe_cmpR op_ge (pv 0) (pv 1) (nomark _))))
        (pe_one (pe_or (pe_cmpR op_isN (pv 2) pe_non (nomark _)) (pe_one (pe_cmpR op_le (pv 0) (pv 2) (nomark _))))))))
      (pss_cons (ps_set (i := 5) nd rfl (.inl rfl) (pe_lst (pa_cons (pv 3) (pa_cons (pv 4) (pa_cons (pv 4) (pa_cons (pe_df LN hr (pa_cons (pv 0) pa_nil)) (pa_cons (pe_df LC hr (pa_cons (pv 0) pa_nil)) pa_nil)))))))
      (pss_cons (ps_set (i := 6) nd rfl (.inl rfl) (pe_lst (pa_cons (pe_dfk I bI hr (pk_cons (pv 0) pk_nil)) (pa_cons (pe_df W hr (pa_cons (pv 0) (pa_cons (pv 1) (pa_cons (pv 2) pa_nil)))) (pa_cons (pe_dfk W bW hr (pk_cons (pv 2) (pk_cons (pv 1) (pk_cons (pv 0) pk_nil)))) pa_nil)))))
      (pss_cons (ps_set (i := 6) nd rfl (.inl rfl) (pe_op op_cat (pv 6) (pe_lst (pa_cons (pe_dfk N bN hr (pk_cons (pv 0) pk_nil)) (pa_cons (pe_dfk C bC hr (pk_cons (pv 0) pk_nil)) pa_nil)))))
      (pss_cons (ps_if (PW.pt (pw_or (pt_cmpR (op_neD hr.units) (pv 6) (pv 5) (nomark _))
        (pw_or (pt_cmpR (op_neD hr.units) (pe_lc (own := [("_law_one", 7)]) (g := gName 7) rfl nd (pi_list (pv 6))
          (blkOk_by (N := ["_law_value_here", "_law_least", "_law_most", "_law_plain", "_law_within", "_law_due", "_law_told", "_law_one", "_law_text"]) (sc := defScope sVRight) (by decide +kernel)) (fun _ _ _ _ _ => pg_name (i := 7) nd rfl (Or.inl rfl))
          (fun _ _ _ _ _ => pts_one (pt_not (pt_val (pe_callB (show CallR _ _ (rIsi K) from call_isi) (by rfl) T.isi (by decide +kernel) (pa_cons (pv 7) (pa_cons (pe_bltn (v := .ty "bool") (by rfl) T.bool (by decide +kernel) rfl) pa_nil))))))
          (fun _ _ _ _ _ => pv 7)) (pe_lst pa_nil) (nomark _))
          (pw_or1 (pt_cmpR op_ne (pe_df I hr (pa_cons (pv 0) pa_nil)) (pv 3) (nomark _)))))) (pss_one (ps_ret pe_bl)) pss_nil)
      (pss_cons (ps_if (pt_not (pt_val (pe_df LC hr (pa_cons (pv 0) pa_nil)))) (pss_one (ps_ret pe_bl)) pss_nil)
      (pss_cons (ps_set (i := 8) nd rfl (.inl rfl) (pe_ifExp (pt_cmpR op_eq (pe_callB call_len_seq (by rfl) T.len PySem.boot_len (pa_cons (pv 0) pa_nil)) pe_int (nomark _)) pe_str (pe_join pe_str (pv 0))))
      (pss_one (ps_ret (pe_and (pe_cmpR (op_eqD hr.units) (pe_dfk CK bCK hr (pk_cons (pv 0) pk_nil)) (pe_tup (pa_cons (pe_callB call_len_seq (by rfl) T.len PySem.boot_len (pa_cons (pv 0) pa_nil)) (pa_cons (pe_callTy call_tuple_of (by rfl) T.tuple (by decide +kernel) (pa_cons (pv 0) pa_nil)) pa_nil))) (nomark _))
        (pe_and (pe_cmpR op_eq (pe_dfk CT bCT hr (pk_cons (pv 0) pk_nil)) (pv 8) (nomark _))
          (pe_one (pe_cmpR op_eq (pe_df CT hr (pa_cons (pe_callTy call_tuple_of (by rfl) T.tuple (by decide +kernel) (pa_cons (pv 0) pa_nil)) pa_nil)) (pv 8) (nomark _)))))))))))))), ?_⟩
    refine Evl.q_asg (v := .bl (isP v)) (Evl.ev_call (Evl.ea_cons (Evl.ev_var rfl) Evl.ea_nil) (sp_k kd)) fun H1 e1 => ?_
    refine Evl.q_asg (v := .bl (inB v lo hi)) (Evl.ev_is (Evl.ev_andV (b := geB v lo && leB v hi) (Evl.ev_var (v := .bl (isP v)) rfl) (fun hp => ?_)) rfl) fun H2 e2 => ?_
    · obtain ⟨n, rfl⟩ : ∃ n, v = .int n := by
        cases v with
        | int n => exact ⟨n, rfl⟩
        | _ => cases hp
      refine Evl.ev_andV (a := geB (.int n) lo) ?_ (fun _ => ?_)
      · rcases h1 with rfl | ⟨a, rfl⟩
        · exact Evl.ev_orV (a := true) (b := true) (ev_isNb (u := .non) rfl (decide_eq_true rfl)) (fun z => nomatch z)
        · exact Evl.ev_orV (a := false) (ev_isNb (u := .int a) rfl (decide_eq_false (fun z => nomatch z))) (fun _ => Evl.ev_op (Evl.ev_var rfl) (Evl.ev_var rfl) Evl.rv_I0)
      · rcases h2 with rfl | ⟨a, rfl⟩
        · exact Evl.ev_orV (a := true) (b := true) (ev_isNb (u := .non) rfl (decide_eq_true rfl)) (fun z => nomatch z)
        · exact Evl.ev_orV (a := false) (ev_isNb (u := .int a) rfl (decide_eq_false (fun z => nomatch z))) (fun _ => Evl.ev_op (Evl.ev_var rfl) (Evl.ev_var rfl) Evl.rv_I0)
    have kd2 := kd.mono (e1.trans e2)
    have sv2 := sv.mono (e1.trans e2)
    refine Evl.q_asgL (xs := ([isP v, inB v lo hi, inB v lo hi, isName v, cellO o] : List Bool).map V.bl) (Evl.el_lst (Evl.ea_cons (Evl.ev_var rfl) (Evl.ea_cons (Evl.ev_var rfl) (Evl.ea_cons (Evl.ev_var rfl) (Evl.ea_cons (Evl.ev_call (Evl.ea_cons (Evl.ev_var rfl) Evl.ea_nil) (sp_ko kd2 okv))
      (Evl.ea_cons (Evl.ev_call (Evl.ea_cons (Evl.ev_var rfl) Evl.ea_nil) (sp_s sv2)) Evl.ea_nil))))) (by show 5 ≤ 100000; decide)) fun p H3 _ e3 hp3 => ?_
    have kd3 := kd2.mono e3
    have sv3 := sv2.mono e3
    refine Evl.q_asgL (xs := ([isP v, inB v lo hi, inB v lo hi] : List Bool).map V.bl) (Evl.el_lst (Evl.ea_cons (ev_callN (Evl.ea_cons (Evl.ev_var rfl) Evl.ea_nil) rfl (sp_k kd3)) (Evl.ea_cons (Evl.ev_call (Evl.ea_cons (Evl.ev_var rfl) (Evl.ea_cons (Evl.ev_var rfl) (Evl.ea_cons (Evl.ev_var rfl) Evl.ea_nil))) (sp_w kd3 h1 h2))
      (Evl.ea_cons (ev_callN (Evl.ea_cons (Evl.ev_var rfl) (Evl.ea_cons (Evl.ev_var rfl) (Evl.ea_cons (Evl.ev_var rfl) Evl.ea_nil))) rfl (sp_w kd3 h1 h2)) Evl.ea_nil))) (by show 3 ≤ 100000; decide)) fun p4 H4 _ e4 hp4 => ?_
    have kd4 := kd3.mono e4
    have sv4 := sv3.mono e4
    refine Evl.q_asgL (xs := ([isP v, inB v lo hi, inB v lo hi, isName v, cellO o] : List Bool).map V.bl) (el_cat (ys := ([isName v, cellO o] : List Bool).map V.bl) (Evl.ev_var rfl) hp4 (Evl.el_lst (Evl.ea_cons (ev_callN (Evl.ea_cons (Evl.ev_var rfl) Evl.ea_nil) rfl (sp_k kd4))
      (Evl.ea_cons (ev_callN (Evl.ea_cons (Evl.ev_var rfl) Evl.ea_nil) rfl (sp_s sv4)) Evl.ea_nil)) (by show 2 ≤ 100000; decide)) (by show 3 + 2 ≤ 100000; decide)) fun p5 H5 _ e5 hp5 => ?_
    have kd5 := kd4.mono e5
    have sv5 := sv4.mono e5
    have hp35 := e5 _ _ (e4 _ _ hp3)
    refine Evl.q_when (b := false) (Evl.et_or (a := false) (b := false) (Evl.et_test (ev_neBls (Evl.ev_var rfl) (Evl.ev_var rfl) hp5 hp35)) (fun _ => Evl.et_or (a := false) (b := false) (Evl.et_test (Evl.ev_is (ev_neE (ys := Evl.given 5 (fun _ => false) (fun _ => .non)) (Evl.el_lcL (fun _ => false) _ (Evl.ev_var rfl) (Evl.sq_of hp5) (by show 5 ≤ 40000; decide) (fun _ => rfl) (fun i x H6 e6 hix => ?_) (fun i x H6 e6 hix z => nomatch z)) (fun y hy => ?_)) rfl))
      (fun _ => Evl.et_test (Evl.ev_is (Evl.ev_op (Evl.ev_call (Evl.ea_cons (Evl.ev_var rfl) Evl.ea_nil) (sp_k kd5)) (Evl.ev_var (v := .bl (isP v)) rfl) (Evl.rv_ne rfl)) (by simp)))))
      (fun z => nomatch z) (fun _ H6 e6 => ?_)
    · have hx : x ∈ ([isP v, inB v lo hi, inB v lo hi, isName v, cellO o] : List Bool).map V.bl := List.mem_of_getElem? hix
      obtain ⟨b, _, rfl⟩ := List.mem_map.mp hx
      exact Evl.et_not (a := true) (Evl.et_B (ev_isi (Evl.ev_var rfl) (.bl b) (by decide +kernel)))
    · obtain ⟨i, _, z, _⟩ := given_mem hy
      cases z
    have sv6 := sv5.mono e6
    have up : Evl.Ex H H6 := ((((e1.trans e2).trans e3).trans e4).trans e5).trans e6
    refine Evl.q_when (b := !cellO o) (Evl.et_not (Evl.et_B (Evl.ev_call (Evl.ea_cons (Evl.ev_var rfl) Evl.ea_nil) (sp_s sv6)))) (fun _ H7 e7 => Evl.s_ret Evl.ev_c fun H8 e8 => q.go ((up.trans e7).trans e8)) (fun hb H7 e7 => ?_)
    cases o with
    | none => cases hb
    | some xs =>
      obtain ⟨a, rfl, hx, hl, he⟩ := (sv6.mono e7).seq (K := K)
      have hn : xs.all isName = true := by
        cases h : xs.all isName with
        | true => rfl
        | false =>
          have hb' : (!(xs.all isName && ascB xs)) = false := hb
          rw [h] at hb'
          cases hb'
      obtain ⟨ys, rfl, hy⟩ := cell_strs hn
      have hs : smallS ys := ⟨by rw [List.length_map] at hl; exact hl, fun y h => (hy y h).1⟩
      have oky : ∀ y ∈ ys, PySem.PyData.strOk y = true := fun y h => Elm_ok (he (.str y) (List.mem_map.mpr ⟨y, h, rfl⟩))
      have hlm : (ys.map V.str).length = ys.length := List.length_map ..
      refine Evl.q_asg (v := .str (textOf ys)) (Evl.ev_if (b := decide (V.int ((ys.map V.str).length : Int) = V.int 0)) (Evl.et_test (Evl.ev_op (ev_lenR (Evl.ev_var rfl) hx) Evl.ev_c (Evl.rv_eq rfl))) (fun hb => ?_) (fun hb => ?_)) fun H8 e8 => ?_
      · have h0 : ys.length = 0 := by
          have := of_decide_eq_true hb
          injection this with this
          omega
        unfold textOf
        rw [if_pos h0]
        exact Evl.ev_c
      · have h0 : ¬ ys.length = 0 := fun h => by
          rw [hlm, h] at hb
          cases hb
        unfold textOf
        rw [if_neg h0]
        exact ev_joinX (K := K) Evl.ev_c (Evl.ev_var rfl) hx hs
      have hx8 := hx.ex e8
      refine Evl.s_ret (v := .bl true) (Evl.ev_andV (a := true) (b := true) (ev_eqKeys oky ?_ (evp_key (ev_lenR (Evl.ev_var rfl) hx8) (evp_tupOf (Evl.ev_var rfl) hx8))) (fun _ => Evl.ev_andV (a := true) (b := true) (Evl.ev_is (Evl.ev_op (x := .str (textOf ys)) (ev_callN (Evl.ea_cons (Evl.ev_var rfl) Evl.ea_nil) rfl ?_) (Evl.ev_var (v := .str (textOf ys)) rfl) (Evl.rv_eq rfl)) (by simp))
        (fun _ => Evl.ev_is (Evl.ev_op (x := .str (textOf ys)) ?_ (Evl.ev_var (v := .str (textOf ys)) rfl) (Evl.rv_eq rfl)) (by simp)))) fun H9 e9 => q.go ((((up.trans e7)).trans e8).trans e9)
      · exact fun G e Q k => ⟨.ref a, rfl, rfl, rfl, a, _, rfl, hx8.ex e, by rw [hlm]; exact hs.1, fun v G1 e1 p => k v G1 e1 p⟩
      · exact fun G e Q k _ => ⟨a, ys, rfl, hx8.ex e, hs, k⟩
      · exact ev_callP (evp_tupOf (Evl.ev_var rfl) hx8) fun v G1 e1 ⟨t, ev, ht⟩ Q k _ => ⟨t, ys, by rw [ev]; rfl, .inr ht, hs, k⟩
end
end K01
/-! d.get(k, x) of a dict of the module whose keys are texts. -/
namespace BW
open PySem PySem.Spec PyProof.Rows L2
def KDic (K : PySem.W.Frag) (w : World) (a : Addr) (es : Array DictEntry) (n : Nat) : Prop := K.lookup a = some ⟨.type "dict", none, .dict es n, #[]⟩ ∧ PySem.W.KeysLit w.params es.toList ∧ (a == sysModules) = false
def KGet (K : PySem.W.Frag) (w : World) (a : Addr) (z : Str) (o : Option V) : Prop := ∃ es n r, KDic K w a es n ∧ PySem.W.nsIn K a z = some r ∧ RelO o r
def tKGet2 (K : PySem.W.Frag) (w : World) (td ty tx : TE) : TE := fun σ H Q => td σ H fun x H1 => ∃ a, x = .ref a ∧ (∃ es n, KDic K w a es n) ∧ ty σ H1 fun y H2 => tx σ H2 fun d H3 => ∃ (z : Str) (o : Option V), y = .str z ∧ KGet K w a z o ∧ Q (o.getD d) H3
section
variable {X : Cx} {o e f : Expr} {td ty tx : TE} {apos cpos : Pos}
theorem pe_kget2 (ho : PE X o td) (he : PE X e ty) (hf : PE X f tx) (m : M2 X o "get" apos e f cpos) : PE X (.Call (.Attribute o "get" apos) [e, f] [] cpos) (tKGet2 X.K X.w td ty tx) := by
  constructor
  intro pins s σ H Q I h
  refine wpAny_Call_method m.base m.few m.line PySem.F.plainAttrs_dict PySem.F.slot_dict_get PySem.F.type_dict_get (thn (ho.run pins s σ H _ I h) fun u s1 hh => ?_)
  obtain ⟨x, H1, I1, rx, a, rfl, ⟨es, n, hk, hlit, low⟩, q1⟩ := hh
  obtain rfl : u = Value.ref a := rx
  have at1 := I1.kIn _ _ hk
  refine ⟨⟨_, at1, rfl⟩, fun b z => ?_, ?_⟩
  · cases z
    exact ⟨_, at1, rfl⟩
  rw [m.trees]
  refine Calls.callWith_builtin rfl (Calls.evalArgs_plain (Calls.spliced_cons (thn (he.run pins s1 σ H1 _ I1 q1) fun kv s2 hh => ?_)))
  obtain ⟨y, H2, I2, ry, q2⟩ := hh
  refine Calls.spliced_cons (thn (hf.run pins s2 σ H2 _ I2 q2) fun fv s3 hh => Calls.spliced_nil ?_)
  obtain ⟨d, H3, I3, rd, z, oo, rfl, ⟨es', n', r, ⟨hk', hlit', low'⟩, hr, ro⟩, q3⟩ := hh
  obtain ⟨t, rfl⟩ := ry
  have mp := PySem.W.mapOf_K (prog := X.prog) (w := X.w) I3.kIn hk' hlit'
  refine call_meetsIn PySem.F.slot_dict_get mp.typeIs PySem.F.entry_dict_get (PySem.F.args_dict_get_3 _ _ _) (meets_dict_get_default (strKind X.prog X.w) a (strKind_is X.prog X.w z t) low' fv) ⟨_, mp, ⟨_, H3, I3.tok _, ?_, q3⟩⟩
  rw [PySem.W.find_K hk' hr]
  exact ro.getD rd
end
end BW
namespace K01
open PySem PySem.Spec PyProof.Rows L2 BW
abbrev sIsWord : Stmt := topS 9
abbrev sTurned : Stmt := topS 10
def eight : List Str := ["apart", "meets", "overlaps", "same", "deep", "rim", "holdsdeep", "holdsrim"]
def isWd : V → Bool
  | .str z => decide (z ∈ eight)
  | _ => false
def turnO (z : Str) : Option V := if z = "deep" then some (.str "holdsdeep") else if z = "holdsdeep" then some (.str "deep") else if z = "rim" then some (.str "holdsrim") else if z = "holdsrim" then some (.str "rim") else none
def turnOf (z : Str) : V := (turnO z).getD (.str z)
/-- what the defs of words read of the top -/
structure Tw (P : Program) (w : World) (K : PySem.W.Frag) (mg : Str → Option Value) (base : Heap) (CB : Addr) : Prop where
  isi : mg "isinstance" = none
  str : mg "str" = none
  words : ∃ wa, mg "WORDS" = some (.ref wa) ∧ ∀ H, SqT K H wa (eight.map V.str)
  turned : ∃ d, mg "TURNED" = some (.ref d) ∧ (∃ es n, KDic K w d es n) ∧ ∀ z ∈ eight, KGet K w d z (turnO z)
  bad : E1 P w K mg base "BadWord" "part" CB
  exB : PySem.W.subIn K (.ref CB) (.type "BaseException") = some true
  tyB : PySem.W.typeIn K (.ref CB) = some (.type "type")
theorem inV_strs (z : Str) : ∀ l : List Str, inV (.str z) (l.map V.str) = decide (z ∈ l) := fun l => by
  induction l with
  | nil => rfl
  | cons y l ih =>
    have h : inV (.str z) ((y :: l).map V.str) = (eqV (.str y) (.str z) || inV (.str z) (l.map V.str)) := rfl
    rw [h, ih]
    have h2 : eqV (.str y) (.str z) = (y == z) := rfl
    rw [h2]
    by_cases e : z = y
    · subst e
      simp
    · have e2 : (y == z) = false := by
        rw [beq_eq_false_iff_ne]
        exact fun q => e q.symm
      rw [e2, Bool.false_or]
      simp [e]
section
variable {P : Program} {w : World} {K : PySem.W.Frag} {mg : Str → Option Value} {base : Heap} {CB : Addr}
theorem sc_iw : FnScope ["value"] ["value"] (defScope sIsWord) := ⟨rfl, rfl, rfl, by decide +kernel, rfl, by decide +kernel, by decide +kernel⟩
theorem ok_isword {f : Addr} {fd : FuncData} {k : Nat} (T : Tw P w K mg base CB) (F : Fun K "is_word" "is_word" sIsWord f fd) : FnOk P w K mg base CX0 (k + 1) f fd ["value"] (spK isWd) := by
  refine F.ok sc_iw (fun vs H Q E h => ?_) (fun cdv A outer s H vs Q E hr h => ?_)
  · obtain ⟨v, t, rfl, _⟩ := h
    rfl
  · obtain ⟨v, t, rfl, kd, q⟩ := h
    obtain ⟨wa, gW, hW⟩ := T.words
    refine ⟨_, pss_one (ps_ret (pe_and (pe_callB call_isi (by rfl) T.isi (by decide +kernel) (pa_cons (pv 0) (pa_cons (pe_bltn (v := .ty "str") (by rfl) T.str (by decide +kernel) rfl) pa_nil)))
      (pe_one (pe_cmpR op_in_seq (pv 0) (pe_glob (v := .ref wa) rfl gW rfl) (by rfl))))), ?_⟩
    refine Evl.s_ret (v := .bl (isWd v)) (Evl.ev_is (Evl.ev_andV (b := isWd v) (ev_isi (Evl.ev_var rfl) kd (kd_str kd)) (fun hs => ?_)) ?_) fun H1 e => q.go e
    · cases kd with
      | @str z hz => exact Evl.ev_is (Evl.ev_op (Evl.ev_var rfl) Evl.ev_c (Evl.rv_isT (hW _) rfl (by decide +kernel))) (by rw [inV_strs]; rfl)
      | _ => cases hs
    · cases kd <;> rfl
def spTurn (CB : Addr) : Sp := fun vs H Q E => ∃ (v : V) (T : String), vs = [v] ∧ Knd H v T ∧ ((∃ z, v = .str z ∧ z ∈ eight ∧ Evl.RetV (turnOf z) H Q) ∨ (isWd v = false ∧ ∀ d H', Evl.Ex H H' → H' d = some (.xd [("part", .str "word")]) → E (.ref CB) (some d) H'))
theorem sc_tw : FnScope ["word"] ["word"] (defScope sTurned) := ⟨rfl, rfl, rfl, by decide +kernel, rfl, by decide +kernel, by decide +kernel⟩
theorem binds_of {fd : FuncData} {ps : List Str} {n : Nat} (b : KBn K fd ps n [] (fun us _ => us) (fun vs _ => vs)) (h : ps.length = n) : Binds K fd ps [] := fun s us X hl => by
  rw [List.append_nil] at hl ⊢
  exact b.to s us [] X (hl.trans h) rfl
theorem ok_turned {f fW : Addr} {fd fdW : FuncData} {k : Nat} (T : Tw P w K mg base CB) (D : Df P w K mg base (k + 2) "is_word" ["value"] (spK isWd) fW fdW) (F : Fun K "turned_word" "turned_word" sTurned f fd) :
    FnOk P w K mg base (L2.CX P w) (k + 3) f fd ["word"] (spTurn CB) := by
  refine F.okX sc_tw (fun vs H Q E h => ?_) (fun cdv A outer s H vs Q E hr h => ?_)
  · obtain ⟨v, t, rfl, _⟩ := h
    rfl
  · obtain ⟨v, t, rfl, kd, q⟩ := h
    obtain ⟨d, gT, ⟨es, n, hD⟩, hG⟩ := T.turned
    obtain ⟨fI, fdI, iC, tI, FI, bI, _⟩ := T.bad.made
    refine ⟨_, pss_cons (ps_if (pt_not (pt_val (pe_df D hr (pa_cons (pv 0) pa_nil)))) (pss_one (ps_raise rfl (takes_of rfl rfl rfl rfl) (pmk_oex T.bad.O iC tI FI (hr.mono (by omega)) (binds_of bI rfl) .nil pass0 rfl T.bad.g (pa_cons pe_str pa_nil)))) pss_nil)
      (pss_one (ps_ret (pe_kget2 (pe_glob (v := .ref d) rfl gT rfl) (pv 0) (pv 0) ⟨rfl, rfl, rfl, rfl⟩))), ?_⟩
    refine Evl.q_when (b := !isWd v) (Evl.et_not (Evl.et_B (Evl.ev_call (Evl.ea_cons (Evl.ev_var rfl) Evl.ea_nil) (sp_k kd)))) (fun hb H1 e1 => ?_) (fun hb H1 e1 => ?_)
    · rcases q with ⟨z, rfl, hz, _⟩ | ⟨_, q⟩
      · have hb' : (!decide (z ∈ eight)) = true := hb
        rw [decide_eq_true hz] at hb'
        cases hb'
      · refine ⟨(by show 1 ≤ 1000; decide), fun a na => ⟨a, CB, .str "word", rfl, T.bad.O, T.bad.no, upd_same, fun d' H' nd' ne k h1 h2 => ⟨rfl, d', [("part", .str "word")], h1, h2, ?_, q d' _ (fun b o hb => ?_) upd_same⟩⟩⟩
        · rw [upd_ne ne] at nd'
          exact nd'
        · have hb1 := e1 _ _ hb
          have nba : b ≠ a := ne_of_none hb1 na
          have nbd : b ≠ d' := fun z => by
            rw [z] at hb1
            rw [upd_ne ne, hb1] at nd'
            cases nd'
          rw [upd_ne nbd, del_ne nba]
          exact k b o nba (by rw [upd_ne nba]; exact hb1)
    · rcases q with ⟨z, rfl, hz, q⟩ | ⟨hn, _⟩
      · exact ⟨d, rfl, ⟨es, n, hD⟩, .str z, rfl, .str z, rfl, z, turnO z, rfl, hG z hz, q.go e1⟩
      · rw [hn] at hb
        cases hb
end
end K01
namespace K01
open PySem PySem.Spec PyProof.Rows L2 BW
abbrev sLawName : Stmt := topS 23
section
variable {P : Program} {w : World} {K : PySem.W.Frag} {mg : Str → Option Value} {base : Heap}
theorem ed_next {p L : Addr} {te : TE} {σ : L2.St} {H : Hp} {m i : Nat} {M : Int} (hσ : σ[i]? = some (some (.ref p))) (hM : M.natAbs < 2 ^ 200) (h : Evd p L te σ H m (fun v _ => ∃ j, v = .int j ∧ 0 < j ∧ j ≤ M)) :
    Evd p L (tCall spNext [] E0 (tCons (tVar i) (tCons te tNil))) σ H (m + 1) (Lt M) := fun H1 k n pn hn Q q =>
  ⟨.ref p, hσ, h H1 k n pn (by omega) _ fun v H2 k2 p2 hv => by
    obtain ⟨j, rfl, j0, j1⟩ := hv
    exact ⟨p, L, n + m, j, rfl, p2, by omega, j0, by omega, fun r H3 r0 r1 k3 p3 => q (.int r) H3 (k2.trans k3) p3 ⟨r, rfl, r0, by omega⟩⟩⟩
theorem ed_nextC {p L : Addr} {σ : L2.St} {H : Hp} {i : Nat} {M : Int} (hσ : σ[i]? = some (some (.ref p))) (h0 : 0 < M) (hM : M.natAbs < 2 ^ 200) : Evd p L (tCall spNext [] E0 (tCons (tVar i) (tCons (tC (.int M)) tNil))) σ H 1 (Lt M) :=
  ed_next hσ hM (ed_c (v := .int M) fun _ => ⟨M, rfl, h0, Int.le_refl M⟩)
theorem sc_nm : FnScope ["_law_store_here", "_law_size", "_law_signs", "_law_first", "_law_few", "_law_at"] ["_law_store_here"] (defScope sLawName) := ⟨rfl, rfl, rfl, by decide +kernel, rfl, by decide +kernel, by decide +kernel⟩
def alph : Str := "abcdefghijklmnopqrstuvwxyz0123456789A_ +-."
def okS (z : Str) (n : Nat) : Prop := (∀ c ∈ z.cps.toList, c < 0x110000) ∧ z.length ≤ n
theorem okS.ok {z : Str} {n : Nat} (h : okS z n) : PySem.PyData.strOk z = true := by
  show z.cps.all (· < 0x110000) = true
  rw [Array.all_eq_true_iff_forall_mem]
  intro c hc
  exact decide_eq_true (h.1 c (Array.mem_toList_iff.mpr hc))
def spName : Sp := fun vs H Q _ => ∃ (p L : Addr) (n : Nat), vs = [.ref p] ∧ PenL H p L n ∧ n + 20 ≤ 100000 ∧ ∀ z H', okS z 13 → Kp p H H' → PenL H' p L (n + 20) → Q (.str z) H'
def OneS : V → Prop := fun x => ∃ c, x = .str ⟨#[c]⟩ ∧ c < 0x110000
theorem ones_of : ∀ {xs : List V}, (∀ x ∈ xs, OneS x) → ∃ cs : List Nat, xs = (cs.map fun c => (⟨#[c]⟩ : Str)).map V.str ∧ cs.length = xs.length ∧ ∀ c ∈ cs, c < 0x110000
  | [], _ => ⟨[], rfl, rfl, fun _ h => nomatch h⟩
  | x :: xs, h => by
    obtain ⟨c, rfl, hc⟩ := h x (List.mem_cons_self ..)
    obtain ⟨cs, e, l, k⟩ := ones_of fun y hy => h y (List.mem_cons_of_mem _ hy)
    refine ⟨c :: cs, by rw [e]; rfl, by rw [List.length_cons, l]; rfl, fun d hd => ?_⟩
    rcases List.mem_cons.mp hd with rfl | hd
    · exact hc
    · exact k d hd
theorem joinL_ones : ∀ cs : List Nat, TL.joinL [] (cs.map fun c => [c]) = cs
  | [] => rfl
  | [_] => rfl
  | c :: d :: r => by
    show [c] ++ ([] ++ TL.joinL [] ((d :: r).map fun c => [c])) = c :: d :: r
    rw [joinL_ones (d :: r)]
    rfl
theorem join_ones (cs : List Nat) : (Txt.join Str.empty (cs.map fun c => (⟨#[c]⟩ : Str))).cps.toList = cs := by
  rw [TL.join_eq]
  have h := TL.tl_join Str.empty (cs.map fun c => (⟨#[c]⟩ : Str))
  have e : (cs.map fun c => (⟨#[c]⟩ : Str)).map TL.tl = cs.map fun c => [c] := by
    rw [List.map_map]
    rfl
  rw [e] at h
  exact h.trans (joinL_ones cs)
theorem alph_ok : ∀ c ∈ alph.cps.toList, c < 0x110000 := by decide +kernel
def firsts : List Str := ["a", "z", "m", "q", "0", "9", "B", "_"]
theorem ok_name {f fN : Addr} {fd fdN : FuncData} {k : Nat} (T : Tx mg) (mx : mg "max" = none) (N : Df P w K mg base (k + 1) "_law_next" ["_law_store_here", "_law_many"] spNext fN fdN) (F : Fun K "_law_name" "_law_name" sLawName f fd) :
    FnOk P w K mg base CX0 (k + 2) f fd ["_law_store_here"] spName := by
  refine F.ok sc_nm (fun vs H Q E h => ?_) (fun cdv A outer s H vs Q E hr h => ?_)
  · obtain ⟨p, L, n, rfl, _⟩ := h
    rfl
  · obtain ⟨p, L, n, rfl, hP, hn, q⟩ := h
    have nd := sc_nm.nd
    refine ⟨_, pss_cons (ps_asg (pe_tup (pa_cons (pe_ix ix_list (pe_lst (pa_cons pe_int (pa_cons pe_int (pa_cons pe_int (pa_cons pe_int (pa_cons pe_int (pa_cons pe_int (pa_cons pe_int pa_nil)))))))) (pe_df N hr (pa_cons (pv 0) (pa_cons pe_int pa_nil))) (fun _ _ => rfl)) (pa_cons (pe_str (x := alph)) pa_nil)))
        (pg_tup rfl (pgs_cons (pg_name (i := 1) nd rfl (.inl rfl)) (pgs_cons (pg_name (i := 2) nd rfl (.inr rfl)) pgs_nil))))
      (pss_cons (ps_set (i := 3) nd rfl (.inl rfl) (pe_ix ix_list (pe_lst (pa_cons pe_str (pa_cons pe_str (pa_cons pe_str (pa_cons pe_str (pa_cons pe_str (pa_cons pe_str (pa_cons pe_str (pa_cons pe_str pa_nil)))))))))
        (pe_df N hr (pa_cons (pv 0) (pa_cons (pe_ifExp (pt_cmpR op_eq (pe_df N hr (pa_cons (pv 0) (pa_cons pe_int pa_nil))) pe_int (nomark _)) pe_int pe_int) pa_nil))) (fun _ _ => rfl)))
      (pss_cons (ps_set (i := 4) nd rfl (.inr rfl) (pe_ifExp (pt_cmpR op_gt (pe_df N hr (pa_cons (pv 0) (pa_cons pe_int pa_nil))) pe_int (nomark _)) pe_int pe_int))
      (pss_one (ps_ret (pe_slice sl_str (pe_op op_add_str (pv 3) (pe_join pe_str (pe_lc (own := [("_law_at", 5)]) (g := gName 5) (tt := tYes) rfl nd (pi_range1 rfl T.rng (pa_cons (pe_callB (call_max2 rfl) (by rfl) mx (by decide +kernel) (pa_cons pe_int (pa_cons (pe_op op_sub (pv 1) pe_int) pa_nil))) pa_nil))
          (blkOk_by (N := ["_law_store_here", "_law_size", "_law_signs", "_law_first", "_law_few", "_law_at"]) (sc := defScope sLawName) (by decide +kernel)) (fun _ _ _ _ _ => pg_name (i := 5) nd rfl (Or.inl rfl)) (fun _ _ _ _ _ => pts_nil)
          (fun _ _ _ _ _ => pe_ix ix_str (pv 2) (pe_df N hr (pa_cons (pv 0) (pa_cons (pv 4) pa_nil))) (fun _ _ => rfl))))) po_none (po_some (pv 1))))))), ?_⟩
    have cI : ∀ {σ : L2.St} {H : Hp} {i : Int}, 0 ≤ i → i ≤ 13 → Evd p L (tC (.int i)) σ H 0 (fun v _ => ∃ j : Int, v = .int j ∧ 0 ≤ j ∧ j ≤ 13) := fun h1 h2 => ed_c fun _ => ⟨_, rfl, h1, h2⟩
    have mI : Mon (fun v _ => ∃ j : Int, v = .int j ∧ 0 ≤ j ∧ j ≤ 13) := fun _ _ _ _ h => h
    -- the size and the signs
    refine ed_pick (N := 7) (m := 0) (m' := 1) mI (by decide) (eda_cons mI (cI (by decide) (by decide)) (eda_cons mI (cI (by decide) (by decide)) (eda_cons mI (cI (by decide) (by decide)) (eda_cons mI (cI (by decide) (by decide)) (eda_cons mI (cI (by decide) (by decide)) (eda_cons mI (cI (by decide) (by decide)) (eda_cons mI (cI (by decide) (by decide)) eda_nil)))))))
      (ed_nextC rfl (by decide) (by decide)) H (Kp.refl p H) n hP (by omega) _ fun v H1 k1 p1 hv => ?_
    obtain ⟨size, rfl, s0, s13⟩ := hv
    refine ⟨(by show 2 ≤ sizeLine; decide), fun a na => ⟨a, _, rfl, .inl (.inl upd_same), rfl, .int size, _, rfl, .str alph, [], rfl, rfl, ?_⟩⟩
    have k1' : Kp p H (upd H1 a (.tup [.int size, .str alph])) := k1.trans (Same.kp (same_new na))
    have p1' := p1.same (same_new (o := .tup [.int size, .str alph]) na)
    generalize upd H1 a (.tup [.int size, .str alph]) = G1 at k1' p1' ⊢
    -- the first sign
    have cS : ∀ {σ : L2.St} {H : Hp} (z : Str), z ∈ firsts → Evd p L (tC (.str z)) σ H 0 (fun v _ => ∃ z, v = .str z ∧ z ∈ firsts) := fun z h1 => ed_c fun _ => ⟨_, rfl, h1⟩
    have mS : Mon (fun v _ => ∃ z, v = .str z ∧ z ∈ firsts) := fun _ _ _ _ h => h
    refine ed_pick (N := 8) (m := 0) (m' := 2) mS (by decide) (eda_cons mS (cS _ (by decide)) (eda_cons mS (cS _ (by decide)) (eda_cons mS (cS _ (by decide)) (eda_cons mS (cS _ (by decide)) (eda_cons mS (cS _ (by decide)) (eda_cons mS (cS _ (by decide)) (eda_cons mS (cS _ (by decide)) (eda_cons mS (cS _ (by decide)) eda_nil))))))))
      (ed_next (M := 8) (m := 1) rfl (by decide) (ed_ifD (m := 1) (m3 := 0) (b := fun _ => true) (ed_op (m := 1) (m' := 0) mon_lt (ed_nextC rfl (by decide) (by decide)) (ed_c (v := .int 0) (P := fun v _ => v = .int 0) fun _ => rfl) (fun x y H1 _ hx hy => ?_)) (ed_c fun _ => ⟨5, rfl, by decide, by decide⟩) (ed_c fun _ => ⟨8, rfl, by decide, by decide⟩)))
      G1 (Kp.refl p G1) (n + 1) p1' (by omega) _ fun v H2 k2 p2 hv => ?_
    · obtain ⟨r, rfl, _, _⟩ := hx
      subst hy
      exact ⟨_, Evl.rv_eq rfl, fun _ => ⟨_, rfl⟩⟩
    obtain ⟨first, rfl, hfirst⟩ := hv
    -- how many signs
    refine ed_ifD (m := 1) (m3 := 0) (b := fun _ => true) (P := fun v _ => v = .int 36 ∨ v = .int 42) (ed_op (m := 1) (m' := 0) mon_lt (ed_nextC rfl (by decide) (by decide)) (ed_c (v := .int 0) (P := fun v _ => v = .int 0) fun _ => rfl) (fun x y H1 _ hx hy => ?_)) (ed_c fun _ => .inl rfl) (ed_c fun _ => .inr rfl)
      H2 (Kp.refl p H2) (n + 1 + 2) p2 (by omega) _ fun v H3 k3 p3 hv => ?_
    · obtain ⟨r, rfl, _, _⟩ := hx
      subst hy
      exact ⟨_, Evl.rv_I0, fun _ => ⟨_, rfl⟩⟩
    obtain ⟨few, rfl, f0, f42⟩ : ∃ few : Int, v = .int few ∧ 0 < few ∧ few ≤ 42 := by
      rcases hv with rfl | rfl
      · exact ⟨36, rfl, by decide, by decide⟩
      · exact ⟨42, rfl, by decide, by decide⟩
    -- the text
    refine ⟨.str first, rfl, ⟨_, rfl⟩, ?_⟩
    refine ed_lcR (M := 12) (m := 0) (d := 1) (Pe := OneS) (by decide) (ed_of (fun H1 _ => Evl.ev_max2 Evl.ev_c (Evl.ev_op (Evl.ev_var rfl) Evl.ev_c Evl.rv_I0)) (fun _ => ⟨_, rfl, by split <;> omega, by split <;> omega⟩)) (fun _ => rfl)
      (fun x => ?_) H3 (Kp.refl p H3) (n + 1 + 2 + 1) p3 (by omega) _ fun v H4 k4 p4 hv => ?_
    · intro G k n pn hn Q q
      refine ⟨.str alph, rfl, ?_⟩
      refine ed_next (m := 0) (M := 42) (H := G) rfl (by decide) (ed_of (fun H1 _ => Evl.ev_var rfl) (fun _ => ⟨few, rfl, f0, f42⟩)) G (Kp.refl p G) n pn hn _ fun y G2 k2 p2 hy => ?_
      obtain ⟨r, rfl, r0, r1⟩ := hy
      have hl : r.toNat < alph.cps.toList.length := by
        have e : alph.cps.toList.length = 42 := by decide +kernel
        omega
      have er : r = ((r.toNat : Nat) : Int) := by omega
      have hat := atI_nat (xs := alph.cps.toList) (j := r.toNat) (List.getElem?_eq_getElem hl)
      rw [← er] at hat
      exact ⟨alph, r, _, rfl, rfl, by show (42 : Nat) ≤ sizeLine; decide, hat, q _ G2 k2 p2 ⟨_, rfl, alph_ok _ (List.getElem_mem hl)⟩⟩
    obtain ⟨a2, xs, rfl, ha2, hl, hx⟩ := hv
    obtain ⟨cs, rfl, hcs, hok⟩ := ones_of hx
    have hl2 : cs.length ≤ 12 := by omega
    have hsum : ((cs.map fun c => (⟨#[c]⟩ : Str)).map (·.length)).sum ≤ 12 := by
      have e : ((cs.map fun c => (⟨#[c]⟩ : Str)).map (·.length)) = cs.map fun _ => 1 := by
        rw [List.map_map]
        rfl
      rw [e]
      have e2 : ∀ l : List Nat, (l.map fun _ => 1).sum = l.length := fun l => by
        induction l with
        | nil => rfl
        | cons x l ih =>
          rw [List.map_cons, List.sum_cons, ih, List.length_cons]
          omega
      rw [e2]
      exact hl2
    have hsize : ∀ z ∈ firsts, z.length = 1 := by decide +kernel
    have hfok : ∀ z ∈ firsts, ∀ c ∈ z.cps.toList, c < 0x110000 := by decide +kernel
    have hj := join_ones cs
    have hlen : (Txt.join Str.empty (cs.map fun c => (⟨#[c]⟩ : Str))).length ≤ 12 := by
      have e := len_list (Txt.join Str.empty (cs.map fun c => (⟨#[c]⟩ : Str)))
      rw [hj] at e
      omega
    have hcat : (first ++ Txt.join Str.empty (cs.map fun c => (⟨#[c]⟩ : Str))).cps.toList = first.cps.toList ++ cs := by
      have e : (first ++ Txt.join Str.empty (cs.map fun c => (⟨#[c]⟩ : Str))).cps.toList = first.cps.toList ++ (Txt.join Str.empty (cs.map fun c => (⟨#[c]⟩ : Str))).cps.toList := Array.toList_append ..
      rw [e, hj]
    have hcl : (first ++ Txt.join Str.empty (cs.map fun c => (⟨#[c]⟩ : Str))).length ≤ 13 := by
      have e := len_list (first ++ Txt.join Str.empty (cs.map fun c => (⟨#[c]⟩ : Str)))
      rw [hcat, List.length_append, len_list, hsize _ hfirst] at e
      omega
    refine ⟨Str.empty, a2, _, rfl, rfl, .inl (Evl.sq_of (hide_sub _ _ _ _ ha2)), ?_, first, _, rfl, rfl, ?_, .int size, rfl, size, rfl, first ++ Txt.join Str.empty (cs.map fun c => (⟨#[c]⟩ : Str)), rfl, ?_, ?_⟩
    · have h0 : Str.empty.length = 0 := rfl
      rw [h0]
      omega
    · rw [hsize _ hfirst]
      exact Evl.sz_of (by omega)
    · exact Evl.sz_of (by omega)
    · refine q _ H4 ⟨fun c hc => ?_, Nat.le_trans (cutS_length _ _ _) hcl⟩ (((k1'.trans k2).trans k3).trans k4) (p4.up (by omega))
      have hm : c ∈ first.cps.toList ++ cs := by
        rw [← hcat]
        unfold cutS at hc
        exact List.mem_of_mem_drop (List.mem_of_mem_take hc)
      rcases List.mem_append.mp hm with hm | hm
      · exact hfok _ hfirst c hm
      · exact hok c hm
end
end K01
/-! New lists, tuples, dicts among what draws; [x for i, x in enumerate(xs) if t]. -/
namespace BW
open PySem PySem.Spec PyProof.Rows L2
section
variable {p L : Addr} {te ta tb : TE} {tr : TA} {σ : L2.St} {H H' : Hp} {m m' N : Nat} {P P' : Wd} {v : V} {K : PySem.W.Frag}
theorem ed_lstP (mP : Mon P) (hN : N ≤ 100000) (h : Eda p L tr σ H m N P) : Evd p L (tLst tr) σ H m (fun v G => ∃ a vs, v = .ref a ∧ G a = some (.lst vs) ∧ vs.length = N ∧ ∀ x ∈ vs, P x G) := fun H1 k n pn hn Q q =>
  h H1 k n pn hn _ fun vs H2 k2 p2 l pvs => ⟨by rw [l]; exact Evl.sz_of hN, fun a na => by
    have ka : Kp p H2 (upd H2 a (.lst vs)) := Same.kp (same_new na)
    exact q _ _ (k2.trans ka) (p2.same (same_new na)) ⟨a, vs, rfl, hide_at (p2.ne na).1 upd_same, l, fun x hx => mP _ _ _ (hide_kp ka) (pvs x hx)⟩⟩
theorem ed_tupP (mP : Mon P) (hN : N ≤ 100000) (h : Eda p L tr σ H m N P) : Evd p L (tTup tr) σ H m (fun v G => ∃ a vs, v = .ref a ∧ G a = some (.tup vs) ∧ vs.length = N ∧ ∀ x ∈ vs, P x G) := fun H1 k n pn hn Q q =>
  h H1 k n pn hn _ fun vs H2 k2 p2 l pvs => ⟨by rw [l]; exact Evl.sz_of hN, fun a na => by
    have ka : Kp p H2 (upd H2 a (.tup vs)) := Same.kp (same_new na)
    exact q _ _ (k2.trans ka) (p2.same (same_new na)) ⟨a, vs, rfl, hide_at (p2.ne na).1 upd_same, l, fun x hx => mP _ _ _ (hide_kp ka) (pvs x hx)⟩⟩
theorem q_asgD {D : Ends} {tz : TS} {i n : Nat} (h : Evd p L te σ H m P) (pn : PenL H p L n) (hn : n + m ≤ 100000) (k : ∀ v H1, Kp p H H1 → PenL H1 p L (n + m) → P v (hide p H1) → tz D (σ.set i (some v)) H1) : tSeq (tAsg te (gName i)) tz D σ H :=
  h H (Kp.refl p H) n pn hn _ k
theorem s_asgD {D : Ends} {i n : Nat} (h : Evd p L te σ H m P) (pn : PenL H p L n) (hn : n + m ≤ 100000) (k : ∀ v H1, Kp p H H1 → PenL H1 p L (n + m) → P v (hide p H1) → D.nx (σ.set i (some v)) H1) : tAsg te (gName i) D σ H :=
  h H (Kp.refl p H) n pn hn _ k
theorem s_retD {D : Ends} {n : Nat} (h : Evd p L te σ H m P) (pn : PenL H p L n) (hn : n + m ≤ 100000) (k : ∀ v H1, Kp p H H1 → PenL H1 p L (n + m) → P v (hide p H1) → D.rt v H1) : tRet te D σ H :=
  h H (Kp.refl p H) n pn hn _ k
theorem ed_dict0 : Evd p L tDNewK σ H 0 (fun v G => ∃ a, v = .ref a ∧ G a = some (.dK [])) := fun H1 k n pn hn Q q a na =>
  q _ _ (Same.kp (same_new na)) (pn.same (same_new na)) ⟨a, rfl, hide_at (pn.ne na).1 upd_same⟩
theorem cutV_mem {xs : List V} {lo hi : Option Int} {x : V} (h : x ∈ cutV xs lo hi) : x ∈ xs := by
  unfold cutV at h
  exact List.mem_of_mem_drop (List.mem_of_mem_take h)
/-- a new list, told by a word on what it holds and the heap -/
def Evn (te : TE) (σ : L2.St) (H : Hp) (P : List V → Prop) : Prop := ∀ H1, Evl.Ex H H1 → ∀ Q : VK, (∀ a xs H2, H1 a = none → Evl.Ex H1 H2 → H2 a = some (.lst xs) → P xs → Q (.ref a) H2) → te σ H1 Q
theorem s_asgN {D : Ends} {i : Nat} {P : List V → Prop} (h : Evn te σ H P) (k : ∀ a xs H2, H a = none → Evl.Ex H H2 → H2 a = some (.lst xs) → P xs → D.nx (σ.set i (some (.ref a))) H2) : tAsg te (gName i) D σ H := h H (Evl.Ex.refl H) _ k
theorem q_asgN {D : Ends} {tz : TS} {i : Nat} {P : List V → Prop} (h : Evn te σ H P) (k : ∀ a xs H2, H a = none → Evl.Ex H H2 → H2 a = some (.lst xs) → P xs → tz D (σ.set i (some (.ref a))) H2) : tSeq (tAsg te (gName i)) tz D σ H := h H (Evl.Ex.refl H) _ k
theorem ed_ofN {P : List V → Prop} (h : ∀ H1, Kp p H H1 → Evn te σ H1 P) : Evd p L te σ H 0 (fun v G => ∃ a xs, v = .ref a ∧ G a = some (.lst xs) ∧ P xs) := fun H1 k n pn hn Q q =>
  h H1 k H1 (Evl.Ex.refl H1) _ fun a xs H2 na e ha hp => q _ H2 (Same.kp e) (pn.same e) ⟨a, xs, rfl, hide_at (pn.ne na).1 ha, hp⟩
/-- [x for i, x in enumerate(xs) if t] -/
theorem en_lcE {tl : TE} {tt : TT} {i j M : Nat} {vs : List Nat} {Px : List V → Prop} (J : List V → Nat → List V → Prop) (hl : Evn tl σ H Px) (hlen : ∀ xs, Px xs → xs.length ≤ M) (hM : M ≤ 1000) (hij : i ≠ j) (hjs : ∀ y z, ((((wipe σ vs).set i (some y)).set j (some z)))[j]? = some (some z))
    (hw : ∀ y z, wipe (((wipe σ vs).set i (some y)).set j (some z)) vs = wipe σ vs) (h0 : ∀ xs, Px xs → J xs 0 [])
    (hs : ∀ xs, Px xs → ∀ (t : Nat) (x : V) (acc : List V), xs[t]? = some x → J xs t acc → ∀ H1, Evl.Ex H H1 → ∀ Q : Bool → Hp → Prop, (∀ b H2, Evl.Ex H1 H2 → J xs (t + 1) (if b = true then acc ++ [x] else acc) → Q b H2) → tt (((wipe σ vs).set i (some (.int (t : Int)))).set j (some x)) H1 Q) (hacc : ∀ xs t acc, J xs t acc → acc.length ≤ t) :
    Evn (tLc (iEnum K (tCons tl tNil)) (gTup K 2 (gCons (gName i) (gCons (gName j) gNil))) tt (tVar j) vs) σ H (fun ys => ∃ xs, Px xs ∧ J xs xs.length ys) := fun H1 e Q q =>
  hl H1 e _ fun a xs H2 na e2 ha px => ⟨a, xs, rfl, Evl.sq_of ha, fun Dl hD => by
    refine lc_it (walk_enum (K := K) (a := a) (xs := xs)) (fun t G => ∃ acc, J xs t acc ∧ Evl.Ex H2 G ∧ G Dl = some (.lst acc) ∧ t ≤ xs.length) ⟨[], h0 xs px, Evl.Ex.new hD, upd_same, Nat.zero_le _⟩ (fun t G _ hp => ?_) (fun t x G G' ht hp hy => ?_) (fun G hp => ?_)
    · obtain ⟨acc, _, e3, _⟩ := hp
      exact Evl.sq_of (e3 _ _ ha)
    · obtain ⟨acc, hJ, e3, hd, htl⟩ := hp
      obtain ⟨T, y, z, rfl, nT, rfl, ey, ez⟩ := hy
      obtain rfl := Option.some.inj ey
      have eT : Evl.Ex G (upd G T (.tup [.int (t : Nat), z])) := Evl.Ex.new nT
      refine ⟨T, _, rfl, .inl (.inl upd_same), rfl, .int (t : Nat), _, rfl, z, [], rfl, rfl, hw _ _, ?_⟩
      have neD : Dl ≠ T := ne_of_none hd nT
      refine hs xs px t z acc ez hJ _ ((e.trans e2).trans (e3.trans eT)) _ fun b H3 e4 hJ' => ?_
      have hd3 : H3 Dl = some (.lst acc) := e4 _ _ (eT _ _ hd)
      have la := hacc _ _ _ hJ
      have lx := hlen xs px
      cases b with
      | true =>
        rw [if_pos rfl] at hJ' ⊢
        refine ⟨z, hjs _ _, acc, hd3, small_of (by omega), acc ++ [z], hJ', ?_, upd_same, ht⟩
        exact Evl.Ex.mut ((e3.trans eT).trans e4) hD
      | false =>
        rw [if_neg Bool.false_ne_true] at hJ' ⊢
        exact ⟨acc, hJ', (e3.trans eT).trans e4, hd3, ht⟩
    · obtain ⟨acc, hJ, e3, hd, _⟩ := hp
      exact q Dl acc G (Evl.fresh_back e2 hD) (e2.trans e3) hd ⟨xs, px, hJ⟩⟩
end
end BW
/-! try .. except X as n, more clauses behind it: what the body raises is an X. -/
namespace BW
open PySem PySem.Spec PyProof.Rows L2
/-- the first clause takes it -/
def wFst (K : PySem.W.Frag) (c : Value) (i : Nat) (ts : Addr → Value → Option Addr → TS) (D : Ends) : WX := fun cls d σ H =>
  PySem.W.exmOne K cls c = some true ∧ ∀ a, H a = none → ts a cls d { nx := fun σ1 H1 => D.nx (σ1.set i none) H1, rt := D.rt, bk := fun σ1 H1 => D.bk (σ1.set i none) H1, ct := fun σ1 H1 => D.ct (σ1.set i none) H1 } (σ.set i (some (.ref a))) H
section
variable {X : Cx} {x n : Str} {c : Value} {i : Nat} {body suite : List Stmt} {b₀ : Stmt} {more : List ExceptHandler} {np pos pos' : Pos} {tb : WX → TS} {ts : Addr → Value → Option Addr → TS}
theorem not_frame {B h : Heap} {l : List Env} {a : Addr} {o : Obj} {vs : Array Value} (ff : h.FunFrames B l) (e : h.get? a = some o) (dd : o.data = .fields vs) : a ∉ frs l := fun hm => by
  obtain ⟨_, u, eu, nf⟩ := ff.mem hm
  obtain rfl := Option.some.inj (e.symm.trans eu)
  exact nf _ dd
theorem ps_try_fst (hs : X.stack = X.env :: X.outer) (hf : X.env.frame = some X.env.locals) (hN : X.N.Nodup) (hi : X.N[i]? = some n) (hln : X.env.kindOf n = some .local) (hc : Names X x c)
    (hb : ∀ (W : WX) (pn : List (Addr × Obj)) (xe : Value → Shared → Prop), Takes (X.tr pn xe) W → PSs (X.tr pn xe) body (tb W))
    (hsu : ∀ (a : Addr) (oe : Obj) (cls : Value) (d : Option Addr) (pn : List (Addr × Obj)), Zc cls d oe → (∃ vs, oe.data = .fields vs) → PSs (X.suite a ((a, oe) :: pn)) (b₀ :: suite) (ts a cls d)) :
    PS X (.Try body (.ExceptHandler (some (.Name x np)) (some n) (b₀ :: suite) pos' :: more) [] [] pos) (fun D σ H => tb (wFst X.K c i ts D) D σ H) := by
  constructor
  intro pins s σ H D I h
  have ok := I.ok
  have fr : X.A.frames = some (X.env :: X.outer) := ok.frames.trans (congrArg some hs)
  refine wpAny_Try_except (wpAny_mono ((hb (wFst X.K c i ts D) (X.pn ++ pins) (fun e s₁ => wpAny (model X.prog X.w) X.A (noteFrame e X.env) (fun _ s₂ => wpAny (model X.prog X.w) X.A (setFlight e none) (fun _ s₃ =>
    wpAny (model X.prog X.w) X.A (handleBy e X.env (.ExceptHandler (some (.Name x np)) (some n) (b₀ :: suite) pos' :: more)) (SP X pins D) X.xe s₃) X.xe s₂) X.xe s₁) (fun u s2 air => ?_)).run [] s σ H D (I.toTry _) h) (fun f s1 hq => ?_) fun _ _ z => z)
  · obtain ⟨a, B, sI, pn2, σ2, H2, cls, d, rfl, J, nb, up, sky, na, os, ag, hx, hgo⟩ := air
    have J0 : Inv X pins σ2 H2 sI := J.ofTry ok
    show wpAny (model X.prog X.w) X.A (noteFrame (.ref a) X.env) _ _ _
    refine Sky.land (B := B) (Z := Zc cls d) Zc.steady fr hf (by rw [← hs]; exact sky) fun g fl up3 => ?_
    have J3 : Inv X pins σ2 H2 { s2 with heap := g } := J0.landed nb fl.1 (up.trans up3) os ag
    obtain ⟨oe, vs, ge, ze, de⟩ := fl.there
    have nfr := not_frame fl.2.2.1 ge de
    have nL : a ≠ X.env.locals := fun z => nfr (List.mem_filterMap.mpr ⟨X.env, List.mem_cons_self, by rw [z, hf]⟩)
    have nF : a ∉ X.fs := fun hm => let ⟨e, he, q⟩ := List.mem_filterMap.mp hm; nfr (List.mem_filterMap.mpr ⟨e, List.mem_cons_of_mem _ he, q⟩)
    have S3 := J3.suite ge de na nL nF
    have ty : PySem.W.Looks (model X.prog X.w) g (typeOf (.ref a)) cls := fun _ _ _ t k q => wpAny_typeOf_ref (k _ _ ge) (by rw [ze.1]; exact q)
    have takes := PySem.W.exm_one (M := model X.prog X.w) J3.kIn ty hx
    have named : ∀ {R : Value → Shared → Prop} {E : Value → Shared → Prop}, R c { s2 with heap := g } → wpAny (model X.prog X.w) (X.A.mark (some (.ref a))) (eval (.Name x np) X.env) R E { s2 with heap := g } := fun {R E} q => by
      obtain ⟨hg, hdb, hm⟩ := hc
      rcases hm with hm | ⟨hm, hv, hnn⟩
      · exact ld_glob (X := X.suite a ((a, oe) :: (X.pn ++ pins))) S3 hg hm q hdb
      · exact ld_blt (X := X.suite a ((a, oe) :: (X.pn ++ pins))) S3 hg hm hv q hnn hdb
    refine wpAny_handleBy_cons (codeAny_handlers_test (named (takes.here (codeAny_handlers_suite_as (HandSPX.lands_againZ fl fun g4 fl4 up4 => ?_))))) (fun z => nomatch z)
    have J4 : Inv X pins σ2 H2 { s2 with heap := g4 } := J0.landed nb fl4.1 ((up.trans up3).trans up4) os ag
    obtain ⟨o4, v4, g4e, z4, d4⟩ := fl4.there
    have S4 := J4.suite g4e d4 na nL nF
    refine store_ok (X := X.suite a ((a, o4) :: (X.pn ++ pins))) (v := .ref a) S4 hN hi (.inl hln) rfl (fun s5 S5 => ?_) (.inr hln)
    refine wpAny_mono ((hsu a o4 cls d (X.pn ++ pins) z4 ⟨_, d4⟩).run [] s5 _ H2 _ S5 (hgo a na)) (fun f s6 hq => ?_) (fun _ _ z => z.elim)
    have out : ∀ {σ6 : L2.St} {H6 : Hp} {R : Shared → Prop}, Inv (X.suite a ((a, o4) :: (X.pn ++ pins))) [] σ6 H6 s6 → (∀ s7, Inv X pins (σ6.set i none) H6 s7 → R s7) → wpAny (model X.prog X.w) X.A (do bindName X.env n .none; unbindBehindTheSuite X.env n pos') (fun _ s7 => R s7) X.xe s6 :=
      fun {σ6 H6 R} S6 q => gone_ok (S6.unsuite ok) hN hi hln q
    cases f with
    | next => exact let ⟨_, _, S6, q⟩ := hq; out S6 fun _ J7 => ⟨_, _, J7, q⟩
    | brk => exact let ⟨_, _, S6, q⟩ := hq; out S6 fun _ J7 => ⟨_, _, J7, q⟩
    | cont => exact let ⟨_, _, S6, q⟩ := hq; out S6 fun _ J7 => ⟨_, _, J7, q⟩
    | ret u => exact let ⟨_, _, _, S6, r, q⟩ := hq; out S6 fun _ J7 => ⟨_, _, _, J7, r, q⟩
  · cases f with
    | next => exact let ⟨_, _, J, q⟩ := hq; wpAny_execs_nil ⟨_, _, J.ofTry ok, q⟩
    | brk => exact let ⟨_, _, J, q⟩ := hq; ⟨_, _, J.ofTry ok, q⟩
    | cont => exact let ⟨_, _, J, q⟩ := hq; ⟨_, _, J.ofTry ok, q⟩
    | ret u => exact let ⟨_, _, _, J, r, q⟩ := hq; ⟨_, _, _, J.ofTry ok, r, q⟩
end
end BW
namespace K01
open PySem PySem.Spec PyProof.Rows L2 BW LamX
abbrev sHeard : Stmt := topS 30
abbrev sWords : Stmt := topS 31
def OutW (CB : Addr) (Q : VK) : XK := fun cls d H => cls = .ref CB ∧ ∃ dd, d = some dd ∧ H dd = some (.xd [("part", .str "word")]) ∧ ∀ p, H p = none → Q (.ref p) (upd H p (.tup [.str "word"]))
def THeard (CB : Addr) : (XK → Hp → VK → Prop) → Hp → VK → Prop := fun tl H Q => tl (OutW CB Q) H (fun _ H1 => ([] : List V).length ≤ sizeLine ∧ ∀ p, H1 p = none → Q (.ref p) (upd H1 p (.tup [])))
theorem sc_hd : FnScope ["_law_ask", "error"] ["_law_ask"] (defScope sHeard) := ⟨rfl, rfl, rfl, by decide +kernel, rfl, by decide +kernel, by decide +kernel⟩
section
variable {P : Program} {w : World} {K : PySem.W.Frag} {mg : Str → Option Value} {base : Heap} {CB : Addr}
theorem heard_gives {X : Cx} (T : Tw X.prog X.w X.K X.mg X.base CB) (te : PySem.W.exmOne X.K (.ref CB) (.ref CB) = some true) {g : Addr} {cdg : Value} {q : Str} : GivesTo X ["_law_ask", "error"] "_law_heard" (defScope sHeard) g cdg (defBody sHeard) "_law_ask" q (THeard CB) := by
  intro f c' s H Q tl act hc h
  have nd := sc_hd.nd
  refine ⟨_, pss_cons (ps_try_fst (X := (cxOf C8.CX0 X.prog X.w X.K X.mg X.base ["_law_ask", "error"] "_law_heard" (defScope sHeard) g cdg X.A X.stack s H C8.E0).nox) (c := .ref CB) (i := 1)
      (tb := fun W D σ H => ∃ Ech : XK, (∀ cls d σ' H', σ'.length = 2 → Ech cls d H' → W cls d σ' H') ∧ σ[0]? = some (some (.ref f)) ∧ H c' = some (CodeO c' q) ∧ tl Ech H (fun _ H1 => D.nx σ H1))
      rfl rfl nd rfl rfl ⟨rfl, by decide, .inl T.bad.g⟩ (fun W pn xe tk => ?_) (fun a oe cls d pn hz hf => pss_one (ps_ret (pe_tup (pa_cons (pe_xf T.bad.X T.bad.no hz hf (pv 1)) pa_nil)))))
    (pss_one (ps_ret (pe_tup pa_nil))), ?_⟩
  · refine ⟨fun pins s' σ H' D I h' => ?_⟩
    obtain ⟨Ech, hW, h1, h2, h3⟩ := h'
    have tk' : Takes ((cxOf C8.CX0 X.prog X.w X.K X.mg X.base ["_law_ask", "error"] "_law_heard" (defScope sHeard) g cdg X.A X.stack s H C8.E0).tr pn xe) (fun cls d σ H => σ.length = 2 → W cls d σ H) := fun u s2 ⟨a, B, sI, pn2, σ2, H2, cls, d, e, J, nb, up, sky, na, os, ag, hw⟩ =>
      tk u s2 ⟨a, B, sI, pn2, σ2, H2, cls, d, e, J, nb, up, sky, na, os, ag, hw J.len⟩
    exact (pss_one (ps_expr (act (fun cls d σ H => σ.length = 2 → W cls d σ H) pn xe Ech _ _ tk' (fun cls d σ' H' e l => hW _ _ _ _ l e)))).run pins s' σ H' D I ⟨h1, h2, h3⟩
  · refine ⟨OutW CB Q, fun cls d σ' H' hl e => ?_, rfl, hc, ?_⟩
    · obtain ⟨rfl, dd, rfl, hd, hq⟩ := e
      refine ⟨te, fun a na => ?_⟩
      have hσ : (σ'.set 1 (some (V.ref a)))[1]? = some (some (V.ref a)) := by
        rw [List.getElem?_set_self (by omega)]
      exact ⟨.ref a, hσ, rfl, rfl, dd, _, .str "word", rfl, hd, rfl, (by show 1 ≤ sizeLine; decide), fun p np => hq p np⟩
    · exact h
end
end K01
namespace K01
open PySem PySem.Spec PyProof.Rows L2 BW LamX
def qLam : Str := "_law_words_right.<locals>.<lambda>"
/-- the def, its code object at c -/
structure FunC (K : PySem.W.Frag) (x : Str) (st : Stmt) (f : Addr) (fd : FuncData) (c : Addr) : Prop where
  ex : ∃ (oc : Value) (od : Option Addr) (kV doc pm : Value) (an : Option Addr) (ct : Value) (osl : Array (Option Value)), fd = PySem.W.fnOf x x (defArgs st) (defBody st) (defScope st) .none kV doc pm an (.ref c) ct ∧ K.lookup f = some ⟨oc, od, .func fd, osl⟩ ∧ PySem.W.codeIn K (.ref c) x = true
/-- _law_heard, as the lambda is handed to it -/
structure HdF (P : Program) (w : World) (K : PySem.W.Frag) (mg : Str → Option Value) (g : Addr) : Prop where
  gl : mg "_law_heard" = some (.ref g)
  kp : PySem.W.keepIn K (.ref g) = true
  ex : ∃ (oc : Value) (od : Option Addr) (dV kV doc pm : Value) (an : Option Addr) (cdv ct : Value) (osl : Array (Option Value)), K.lookup g = some ⟨oc, od, .func (PySem.W.fnOf "_law_heard" "_law_heard" (defArgs sHeard) (defBody sHeard) (defScope sHeard) dV kV doc pm an cdv ct), osl⟩ ∧ PySem.W.codeIn K cdv "_law_heard" = true ∧
    L2.Binds K (PySem.W.fnOf "_law_heard" "_law_heard" (defArgs sHeard) (defBody sHeard) (defScope sHeard) dV kV doc pm an cdv ct) ["_law_ask"] []
theorem codeO_lst {c : Addr} {q : Str} {xs : List V} : CodeO c q ≠ .lst xs := fun z => by
  unfold CodeO at z
  cases z
theorem tabs_kp {T : List (Addr × Str)} {p : Addr} {H H' : Hp} {xs : List V} (hp : H p = some (.lst xs)) (h : Tabs T H) (k : Kp p H H') : Tabs T H' := fun q hq => by
  obtain ⟨ps, h1, h2, h3⟩ := h q hq
  have ne : ∀ {b : Addr} {o : HO}, H b = some o → (∀ ys, o ≠ .lst ys) → b ≠ p := fun {b o} hb hn z => by
    rw [z, hp] at hb
    exact hn _ (Option.some.inj hb).symm
  refine ⟨ps, k _ _ (ne h1 fun ys z => nomatch z) h1, h2, fun pos cv hc => ?_⟩
  obtain ⟨c, e1, e2⟩ := h3 pos cv hc
  exact ⟨c, e1, k _ _ (ne e2 fun ys => codeO_lst) e2⟩
def OddW : Wd := fun v G => ∃ T, Knd G v T ∧ isWd v = false
theorem mon_odd : Mon OddW := fun _ _ _ e ⟨T, k, h⟩ => ⟨T, k.mono e, h⟩
/-- what a lambda's making keeps -/
theorem knd_extN {G G' : Hp} {v : V} {T : String} (e : ExtN G G') (k : Knd G v T) : Knd G' v T := by
  cases k with
  | non => exact .non
  | bl b => exact .bl b
  | int i => exact .int i
  | str h => exact .str h
  | lst h => exact .lst (e _ _ h fun ps z => nomatch z)
  | tup h => exact .tup (e _ _ h fun ps z => nomatch z)
  | dict h => exact .dict (e _ _ h fun ps z => nomatch z)
section
variable {P : Program} {w : World} {K : PySem.W.Frag} {mg : Str → Option Value} {base : Heap} {CB : Addr}
theorem sc_wr : FnScope ["_law_store_here", "_law_deep", "_law_rim", "_law_word", "_law_one", "_law_odd"] ["_law_store_here"] (defScope sWords) := ⟨rfl, rfl, rfl, by decide +kernel, rfl, by decide +kernel, by decide +kernel⟩
def spWords (T : List (Addr × Str)) : Sp := fun vs H Q _ => ∃ (p L : Addr) (n : Nat), vs = [.ref p] ∧ PenL H p L n ∧ n + 1 ≤ 100000 ∧ Tabs T H ∧ ∀ H', Q (.bl true) H'
theorem el_cat2 {ta tb : TE} {σ : L2.St} {H : Hp} {p q : Addr} {xs ys : List V} (ha : Evl.Ev ta σ H (.ref p)) (hp : H p = some (.lst xs)) (hb : Evl.Ev tb σ H (.ref q)) (hq : H q = some (.lst ys)) (hl : xs.length + ys.length ≤ 100000) : Evl.EvL (tOp rCat ta tb) σ H (xs ++ ys) := fun H1 e Q k =>
  ha H1 e _ fun H2 e2 => hb H2 (e.trans e2) _ fun H3 e3 => ⟨p, q, xs, ys, rfl, rfl, (e2.trans e3) _ _ (e _ _ hp), (e2.trans e3) _ _ (e _ _ hq), Evl.sz_of hl, fun o no => k o _ (Evl.fresh_back (e2.trans e3) no) ((e2.trans e3).trans (Evl.Ex.new no)) upd_same⟩
theorem el_cat3 {ta tb : TE} {σ : L2.St} {H : Hp} {xs ys : List V} (ha : Evl.EvL ta σ H xs) (hb : Evl.EvL tb σ H ys) (hl : xs.length + ys.length ≤ 100000) : Evl.EvL (tOp rCat ta tb) σ H (xs ++ ys) := fun H1 e Q k =>
  ha H1 e _ fun p H2 _ e2 hp => hb H2 (e.trans e2) _ fun q H3 _ e3 hq => ⟨p, q, xs, ys, rfl, rfl, e3 _ _ hp, hq, Evl.sz_of hl, fun o no => k o _ (Evl.fresh_back (e2.trans e3) no) ((e2.trans e3).trans (Evl.Ex.new no)) upd_same⟩
theorem el_rev {ta : TE} {σ : L2.St} {H : Hp} {p : Addr} {xs : List V} (ha : Evl.Ev ta σ H (.ref p)) (hp : H p = some (.lst xs)) : Evl.EvL (tRevL K ta) σ H xs.reverse := fun H1 e Q k =>
  ha H1 e _ fun H2 e2 => ⟨p, xs, rfl, Evl.sq_of (e2 _ _ (e _ _ hp)), fun o no => k o _ (Evl.fresh_back e2 no) (e2.trans (Evl.Ex.new no)) upd_same⟩
theorem shape_strs {ss : List Str} (h : ∀ z ∈ ss, PySem.PyData.strOk z = true) : SeqAt.shaped (.list (ss.map PyData.str)) = true := shaped_of (lay_strs h) (by rw [deep_strs]; decide)
theorem shape_tup {ss : List Str} (h : ∀ z ∈ ss, PySem.PyData.strOk z = true) : SeqAt.shaped (.tuple (ss.map PyData.str)) = true := by
  show (PyData.canLayAll0 (ss.map PyData.str) && decide (PyData.depthAll (ss.map PyData.str) + 1 ≤ 64)) = true
  rw [lay_strs h, deep_strs]
  rfl
theorem ev_neStrs {ta tb : TE} {σ : L2.St} {H : Hp} {ss : List Str} (ok : ∀ z ∈ ss, PySem.PyData.strOk z = true) (ha : Evl.EvL ta σ H (ss.map V.str)) (hb : Evl.EvL tb σ H (ss.map V.str)) : Evl.Ev (tOp (rNeD K) ta tb) σ H (.bl false) :=
  Evl.ev_opLL ha hb fun p q H1 hp hq _ => fun H2 e2 Q k => by
    refine ⟨_, _, .lst (Evl.sq_of (e2 _ _ hp)) (dp_strs ss), .lst (Evl.sq_of (e2 _ _ hq)) (dp_strs ss), shape_strs ok, shape_strs ok, ?_⟩
    rw [PySem.SeqAt.eqv_refl _ (show PyData.canLay0 (.list (ss.map PyData.str)) = true from lay_strs ok)]
    exact k H2 (Evl.Ex.refl H2)
theorem sp_t {z : Str} {H : Hp} (hz : z ∈ eight) : Evl.SpV (spTurn CB) ([.str z] ++ []) H (turnOf z) := fun H1 e Q q _ => ⟨.str z, "str", rfl, .str (by
    have h : ∀ z ∈ eight, z.length ≤ 1000 := by decide +kernel
    exact h z hz), .inl ⟨z, rfl, hz, q⟩⟩
def four : List Str := ["deep", "holdsdeep", "rim", "holdsrim"]
theorem ok_words {f fT fN g c Pt : Addr} {fd fdT fdN : FuncData} {k : Nat} (T : Tw P w K mg base CB) (tc : PySem.W.exmOne K (.ref CB) (.ref CB) = some true)
    (TF : FnOk P w K mg base (L2.CX P w) (k + 3) fT fdT ["word"] (spTurn CB)) (bT : Binds K fdT ["word"] []) (kbT : KBn K fdT ["word"] 0 ["word"] (fun _ ws => ws) (fun _ zs => zs)) (gT : mg "turned_word" = some (.ref fT)) (kT : PySem.W.keepIn K (.ref fT) = true)
    (N : Df P w K mg base (k + 5) "_law_next" ["_law_store_here", "_law_many"] spNext fN fdN) (HD : HdF P w K mg g) (TB : TabB base mg c Pt) (F : FunC K "_law_words_right" sWords f fd c) :
    FnOk P w K mg base CX0 (k + 6) f fd ["_law_store_here"] (spWords [(Pt, qLam)]) := by
  obtain ⟨oc, od, kV, doc, pm, an, ct, osl, rfl, lk, hcd⟩ := F.ex
  refine fn_of lk hcd sc_wr (fun vs H Q E h => ?_) (fun A outer s H vs Q E hr h => ?_)
  · obtain ⟨p, L, n, rfl, _⟩ := h
    rfl
  · obtain ⟨p, L, n, rfl, hP, hn, hTab, q⟩ := h
    have nd := sc_wr.nd
    obtain ⟨wa, gW, hW⟩ := T.words
    obtain ⟨oc2, od2, dV2, kV2, doc2, pm2, an2, cdv2, ct2, osl2, lk2, hcd2, bH⟩ := HD.ex
    have hr3 := hr.mono (show k + 3 ≤ k + 5 by omega)
    refine ⟨_, PSs.nox (pss_cons (ps_par (i := 1) (j := 2) (by rfl) nd rfl rfl (by decide) rfl rfl (pa_cons (pe_lst (pa_cons pe_str (pa_cons pe_str pa_nil))) (pa_cons (pe_lst (pa_cons pe_str (pa_cons pe_str pa_nil))) pa_nil)) (by rfl))
      (pss_cons (ps_if (pt_cmpR (op_neD hr.units) (pe_glob (v := .ref wa) rfl gW rfl) (pe_tup (pa_cons pe_str (pa_cons pe_str (pa_cons pe_str (pa_cons pe_str (pa_cons pe_str (pa_cons pe_str (pa_cons pe_str (pa_cons pe_str pa_nil))))))))) (nomark _)) (pss_one (ps_ret pe_bl)) pss_nil)
      (pss_cons (ps_for PassesOwn.never rfl (pi_tup (pe_tup (pa_cons pe_str (pa_cons pe_str (pa_cons pe_str (pa_cons pe_str pa_nil)))))) (pg_name (i := 3) nd rfl (.inl rfl))
        (pss_one (ps_if (pt_cmpR op_ne (pe_call TF hr3 (by rfl) gT kT bT .nil passL (pa_cons (pv 3) pa_nil)) (pv 3) (nomark _)) (pss_one (ps_ret pe_bl)) pss_nil)))
      (pss_cons (ps_if (pt_cmpR (op_neD hr.units) (pe_lc (own := [("_law_one", 4)]) (g := gName 4) (tt := tYes) rfl nd (pi_list (pe_op op_cat (pv 1) (pv 2)))
          (blkOk_by (N := ["_law_store_here", "_law_deep", "_law_rim", "_law_word", "_law_one", "_law_odd"]) (sc := defScope sWords) (by decide +kernel)) (fun _ _ _ _ _ => pg_name (i := 4) nd rfl (Or.inl rfl)) (fun _ _ _ _ _ => pts_nil)
          (fun _ _ _ _ _ => pe_kwOnly TF hr3 (by rfl) gT kT kbT passL (pk_cons (pv 4) pk_nil))) (pe_op op_cat (pe_revL (pv 1)) (pe_revL (pv 2))) (nomark _)) (pss_one (ps_ret pe_bl)) pss_nil)
      (pss_cons (ps_set (i := 5) nd rfl (.inr rfl) (pe_ix ix_list (pe_lst (pa_cons pe_non (pa_cons pe_str (pa_cons pe_str (pa_cons pe_str (pa_cons pe_str (pa_cons pe_int (pa_cons (pe_lst (pa_cons pe_str pa_nil)) (pa_cons (pe_tup (pa_cons pe_str pa_nil)) (pa_cons pe_bl (pa_cons pe_str pa_nil)))))))))))
        (pe_df N hr (pa_cons (pv 0) (pa_cons pe_int pa_nil))) (fun _ _ => rfl)))
      (pss_one (ps_ret (pe_cmpR (op_eqD hr.units) (pe_lamcall (T := [(Pt, qLam)]) (TT := THeard CB) (t := fun E => tCall (spTurn CB) [] E (tCons (tVar 5) tNil)) (k := k + 3) rfl HD.gl HD.kp lk2 hcd2 bH sc_hd rfl (.inl rfl) (heard_gives T tc) TB rfl (List.mem_cons_self ..)
          (fun q hq _ => by rw [List.mem_singleton.mp hq]; rfl) hr (lamS_by (sc := defScope sWords) (by decide +kernel)) rfl (fun _ _ _ _ _ => rfl) (fun A outer s H E f c' hr2 => pe_call TF hr2 (by rfl) gT kT bT .nil (passes_call (takes_of rfl rfl rfl rfl) (fun _ _ _ _ h => h)) (pa_cons (pv 5) pa_nil)))
        (pe_tup (pa_cons pe_str pa_nil)) (nomark _))))))))), ?_⟩
    -- the lists
    refine ⟨(by show 2 ≤ sizeLine; decide), fun a na => ⟨(by show 2 ≤ sizeLine; decide), fun b nb => ⟨.ref a, .ref b, rfl, ?_⟩⟩⟩
    have e1 : Evl.Ex H (upd (upd H a (.lst [V.str "deep", V.str "holdsdeep"])) b (.lst [V.str "rim", V.str "holdsrim"])) := (Evl.Ex.new na).trans (Evl.Ex.new nb)
    have ha : (upd (upd H a (.lst [V.str "deep", V.str "holdsdeep"])) b (.lst [V.str "rim", V.str "holdsrim"])) a = some (.lst [V.str "deep", V.str "holdsdeep"]) := Evl.Ex.new nb _ _ upd_same
    have hb : (upd (upd H a (.lst [V.str "deep", V.str "holdsdeep"])) b (.lst [V.str "rim", V.str "holdsrim"])) b = some (.lst [V.str "rim", V.str "holdsrim"]) := upd_same
    generalize upd (upd H a (.lst [V.str "deep", V.str "holdsdeep"])) b (.lst [V.str "rim", V.str "holdsrim"]) = H1 at e1 ha hb ⊢
    -- the words in their order
    have ok8 : ∀ z ∈ eight, PySem.PyData.strOk z = true := by decide +kernel
    refine Evl.q_when (b := false) (Evl.et_test (Evl.ev_opU (x := .ref wa) (xs := eight.map V.str) Evl.ev_c (Evl.eu_tup (Evl.ea_cons Evl.ev_c (Evl.ea_cons Evl.ev_c (Evl.ea_cons Evl.ev_c (Evl.ea_cons Evl.ev_c (Evl.ea_cons Evl.ev_c (Evl.ea_cons Evl.ev_c (Evl.ea_cons Evl.ev_c (Evl.ea_cons Evl.ev_c Evl.ea_nil)))))))) (by show 8 ≤ 100000; decide))
      (fun p2 G hp2 _ => fun G2 e2 Q2 k2 => ⟨.tuple (eight.map .str), .tuple (eight.map .str), .tup (hW G2) (dp_strs eight), .tup (Evl.st_of (e2 _ _ hp2)) (dp_strs eight), shape_tup ok8, shape_tup ok8, by
        rw [PySem.SeqAt.eqv_refl _ (show PyData.canLay0 (.tuple (eight.map PyData.str)) = true from lay_strs ok8)]
        exact k2 G2 (Evl.Ex.refl G2)⟩))) (fun z => nomatch z) (fun _ H2 e2 => ?_)
    -- four stay
    let one : Str → V → Hp → Prop := fun z v _ => v = .str z
    have mo : ∀ z, Mon (one z) := fun z _ _ _ _ h => h
    have mp : ∀ P ∈ [one "apart", one "meets", one "overlaps", one "same"], Mon P := fun P hP => by
      simp only [List.mem_cons, List.not_mem_nil, or_false] at hP
      rcases hP with rfl | rfl | rfl | rfl <;> exact mo _
    have ec : ∀ {σ : L2.St} {H : Hp} (z : Str), Evp (tC (.str z)) σ H (one z) := fun z => evp_of Evl.ev_c
    refine q_forTp (K := K) (Ps := [one "apart", one "meets", one "overlaps", one "same"]) mp (evp_tup mp (eap_cons (mo _) (ec _) (eap_cons (mo _) (ec _) (eap_cons (mo _) (ec _) (eap_cons (mo _) (ec _) eap_nilA)))) (by show 4 ≤ 100000; decide))
      (fun _ σ' _ => ∃ o3, σ' = [some (.ref p), some (.ref a), some (.ref b), o3, none, none]) (fun _ _ => ⟨none, rfl⟩) (fun G1 b1 i v P' σ' G2 hi hv b2 hσ => ?_) (fun G1 b1 σ' H3 b2 hσ => ?_)
    · obtain ⟨o3, rfl⟩ := hσ
      have fin : ∀ z : Str, z ∈ eight → turnOf z = .str z → v = .str z → tIfS (tTest (tOp rNe (tCall (spTurn CB) [] E0 (tCons (tVar 3) tNil)) (tVar 3))) (tRet (tC (.bl false))) tNext
          { nx := fun σ3 H3 => Evl.Ex G1 H3 ∧ (fun _ σ' _ => ∃ o3, σ' = [some (V.ref p), some (V.ref a), some (V.ref b), o3, none, none]) (i + 1) σ3 H3, ct := fun σ3 H3 => Evl.Ex G1 H3 ∧ (fun _ σ' _ => ∃ o3, σ' = [some (V.ref p), some (V.ref a), some (V.ref b), o3, none, none]) (i + 1) σ3 H3, bk := fun _ _ => True, rt := Q }
          [some (.ref p), some (.ref a), some (.ref b), some v, none, none] G2 → True := fun _ _ _ _ _ => True.intro
      clear fin
      obtain ⟨z, hz, hzt, rfl⟩ : ∃ z : Str, z ∈ eight ∧ turnOf z = .str z ∧ v = .str z := by
        match i, hi with
        | 0, hi =>
          obtain rfl := Option.some.inj hi
          exact ⟨"apart", by decide +kernel, by decide +kernel, hv⟩
        | 1, hi =>
          obtain rfl := Option.some.inj hi
          exact ⟨"meets", by decide +kernel, by decide +kernel, hv⟩
        | 2, hi =>
          obtain rfl := Option.some.inj hi
          exact ⟨"overlaps", by decide +kernel, by decide +kernel, hv⟩
        | 3, hi =>
          obtain rfl := Option.some.inj hi
          exact ⟨"same", by decide +kernel, by decide +kernel, hv⟩
        | _ + 4, hi => cases hi
      have call : Evl.Ev (tCall (spTurn CB) [] E0 (tCons (tVar 3) tNil)) [some (.ref p), some (.ref a), some (.ref b), some (.str z), none, none] G2 (.str z) := by
        have h := Evl.ev_call (E := E0) (dvs := []) (Evl.ea_cons (Evl.ev_var (σ := [some (.ref p), some (.ref a), some (.ref b), some (.str z), none, none]) (i := 3) rfl) Evl.ea_nil) (sp_t (CB := CB) (H := G2) hz)
        rw [hzt] at h
        exact h
      exact Evl.s_when (b := false) (Evl.et_test (Evl.ev_is (Evl.ev_op call (Evl.ev_var (v := .str z) rfl) (Evl.rv_ne rfl)) (by simp))) (fun z => nomatch z) (fun _ H9 e9 => ⟨b2.trans e9, _, rfl⟩)
    obtain ⟨o3, rfl⟩ := hσ
    have e13 : Evl.Ex H1 H3 := (e2.trans b1).trans b2
    -- four are exchanged
    have okr : ∀ z ∈ (["holdsdeep", "deep", "holdsrim", "rim"] : List Str), PySem.PyData.strOk z = true := by decide +kernel
    refine Evl.q_when (b := false) (Evl.et_test (ev_neStrs (ss := ["holdsdeep", "deep", "holdsrim", "rim"]) okr
      (Evl.el_lcNL (xs := four.map V.str) (fun _ => true) (fun i => ((["holdsdeep", "deep", "holdsrim", "rim"] : List Str).map V.str).getD i .non) (el_cat2 (Evl.ev_var rfl) (e13 _ _ ha) (Evl.ev_var rfl) (e13 _ _ hb) (by show 2 + 2 ≤ 100000; decide)) (by show 4 ≤ 40000; decide) (fun _ => rfl)
        (fun i x G eG hi => fun G3 e3 Q3 q3 => q3 G3 (Evl.Ex.refl G3)) (fun i x G eG hi _ => ?_))
      (el_cat3 (xs := [V.str "holdsdeep", V.str "deep"]) (ys := [V.str "holdsrim", V.str "rim"]) (el_rev (Evl.ev_var rfl) (e13 _ _ ha)) (el_rev (Evl.ev_var rfl) (e13 _ _ hb)) (by show 2 + 2 ≤ 100000; decide)))) (fun z => nomatch z) (fun _ H4 e4 => ?_)
    · match i, hi with
      | 0, hi =>
        obtain rfl := Option.some.inj hi
        exact ev_callN (Evl.ea_cons (Evl.ev_var rfl) Evl.ea_nil) rfl (sp_t (z := "deep") (by decide +kernel))
      | 1, hi =>
        obtain rfl := Option.some.inj hi
        exact ev_callN (Evl.ea_cons (Evl.ev_var rfl) Evl.ea_nil) rfl (sp_t (z := "holdsdeep") (by decide +kernel))
      | 2, hi =>
        obtain rfl := Option.some.inj hi
        exact ev_callN (Evl.ea_cons (Evl.ev_var rfl) Evl.ea_nil) rfl (sp_t (z := "rim") (by decide +kernel))
      | 3, hi =>
        obtain rfl := Option.some.inj hi
        exact ev_callN (Evl.ea_cons (Evl.ev_var rfl) Evl.ea_nil) rfl (sp_t (z := "holdsrim") (by decide +kernel))
      | _ + 4, hi => cases hi
    -- what is no word
    have e04 : Evl.Ex H H4 := (e1.trans e13).trans e4
    have oC : ∀ {σ : L2.St} {H : Hp} {T : String} (v : V), (∀ G, Knd G v T) → isWd v = false → Evd p L (tC v) σ H 0 OddW := fun v h1 h2 => ed_c fun G => ⟨_, h1 G, h2⟩
    have oS : ∀ {σ : L2.St} {H : Hp} (z : Str), z.length ≤ 1000 → isWd (.str z) = false → Evd p L (tC (.str z)) σ H 0 OddW := fun z h1 h2 => oC _ (fun _ => .str h1) h2
    refine q_asgD (ed_pick (N := 10) (m := 0) (m' := 1) (P := OddW) mon_odd (by decide) (eda_cons mon_odd (oC _ (fun _ => .non) rfl) (eda_cons mon_odd (oS _ (by decide) (by decide +kernel)) (eda_cons mon_odd (oS _ (by decide) (by decide +kernel)) (eda_cons mon_odd (oS _ (by decide) (by decide +kernel)) (eda_cons mon_odd (oS _ (by decide) (by decide +kernel)) (eda_cons mon_odd (oC _ (fun _ => .int _) rfl)
      (eda_cons mon_odd (Evd.imp (ed_lstP (N := 1) (P := fun v _ => v = .str "deep") (fun _ _ _ _ h => h) (by decide) (eda_cons (fun _ _ _ _ h => h) (ed_c fun _ => rfl) eda_nil)) fun v G h => ?_) (eda_cons mon_odd (Evd.imp (ed_tupP (N := 1) (P := fun v _ => v = .str "meets") (fun _ _ _ _ h => h) (by decide) (eda_cons (fun _ _ _ _ h => h) (ed_c fun _ => rfl) eda_nil)) fun v G h => ?_)
      (eda_cons mon_odd (oC _ (fun _ => .bl _) rfl) (eda_cons mon_odd (oS _ (by decide) (by decide +kernel)) eda_nil)))))))))) (ed_nextC rfl (by decide) (by decide))) (hP.same e04) (by omega) fun odd H5 k5 p5 hodd => ?_
    · obtain ⟨c2, ys, rfl, hc2, _⟩ := h
      exact ⟨_, .lst hc2, rfl⟩
    · obtain ⟨c2, ys, rfl, hc2, _⟩ := h
      exact ⟨_, .tup hc2, rfl⟩
    obtain ⟨To, ko, ho⟩ := hodd
    have ko5 : Knd H5 odd To := ko.mono (hide_sub p H5)
    have hpen : ∃ xs, H4 p = some (.lst xs) := by
      obtain ⟨ns, k1, r, h1, _⟩ := hP.same e04
      exact ⟨_, h1⟩
    obtain ⟨xs4, hp4⟩ := hpen
    have T5 : Tabs [(Pt, qLam)] H5 := tabs_kp hp4 (hTab.ext e04) k5
    refine ⟨T5, fun H6 eN T6 => ?_⟩
    refine ⟨odd, rfl, odd, To, rfl, knd_extN eN ko5, .inr ⟨ho, fun d H7 e7 hd => ⟨rfl, d, rfl, hd, fun p2 np2 => ⟨(by show 1 ≤ sizeLine; decide), fun p3 np3 => ?_⟩⟩⟩⟩
    have okw : ∀ z ∈ (["word"] : List Str), PySem.PyData.strOk z = true := by decide +kernel
    have h2 : (upd (upd H7 p2 (.tup [V.str "word"])) p3 (.tup [V.str "word"])) p2 = some (.tup [V.str "word"]) := Evl.Ex.new np3 _ _ upd_same
    refine ⟨.tuple ((["word"] : List Str).map .str), .tuple ((["word"] : List Str).map .str), .tup (Evl.st_of h2) (dp_strs ["word"]), .tup (Evl.st_of upd_same) (dp_strs ["word"]), shape_tup okw, shape_tup okw, ?_⟩
    rw [PySem.SeqAt.eqv_refl _ (show PyData.canLay0 (.tuple ((["word"] : List Str).map PyData.str)) = true from lay_strs okw)]
    exact q _
end
end K01
/-! A set of few tuples whose items are held by value: made, asked, added to. -/
namespace BwS
open PySem PySem.Spec PyProof.Rows L2
/-- items are no class statements, and hashed by value -/
structure Els {P : Program} {w : World} {K : Type} [DecidableEq K] (knd : PySem.KeyKind P w K) : Prop where
  cls : ∀ (n : Nat) (k : K) (v : Value), knd.is k v = true → ofAClassStatement n v = pure false
  byv : ∀ (n : Nat) (k : K) (v : Value), knd.is k v = true → hashByValue n v = pure false
theorem els_str {P : Program} {w : World} : Els (strKind P w) := by
  refine ⟨fun n k v h => ?_, fun n k v h => ?_⟩
  all_goals
    obtain ⟨t, rfl⟩ := PySem.Value.isStrOf_shape (x := k) (v := v) h
    cases n <;> rfl
section
variable {P : Program} {w : World} {K : Type} [DecidableEq K] {knd : PySem.KeyKind P w K} {A : Around} {E : Value → Shared → Prop} {s : Shared}
abbrev hT (knd : PySem.KeyKind P w K) (k : List K) : Int := tupleKeyHash knd k
theorem each_item {p : Value → Prop} (hp : ∀ k v, knd.is k v = true → p v) {ks : List K} {vs : List Value} (h : ItemsAre knd ks vs) : ∀ v ∈ vs, p v := by
  induction h with
  | nil => exact fun v hv => nomatch hv
  | cons h1 _ ih =>
    intro v hv
    rcases List.mem_cons.mp hv with rfl | hv
    · exact hp _ _ h1
    · exact ih v hv
theorem cls_tup (T : Els knd) {k : List K} {b : Addr} {Q : Bool → Shared → Prop} (hk : IsTupleKey knd s.heap k b) (h : Q false s) : wpAny (model P w) A (ofAClassStatement 8 (.ref b)) Q E s := by
  have ty := hk.typeIs
  obtain ⟨o, items, n, ho, _, hd, hi⟩ := hk
  have all : ∀ v ∈ items.toList, ∀ n, ofAClassStatement n v = pure false := each_item (fun k v hv n => T.cls n k v hv) hi
  unfold ofAClassStatement
  refine wpAny_bind (wpAny_typeOf ty ?_)
  have e : (("tuple" : String) == "tuple") = true := by decide
  dsimp only
  simp only [e, if_true, Bool.not_true, Bool.false_eq_true, if_false]
  try refine wpAny_bind (wpAny_pure ?_)
  try simp only [Bool.not_true, Bool.false_eq_true, if_false]
  show wpAny _ _ (seqItems? (.ref b) >>= _) _ _ s
  refine wpAny_bind (wpAny_seqItems ho hd ?_)
  dsimp only
  refine wpAny_bind ?_
  show wpAny _ _ (forIn items _ _) _ _ s
  rw [← Array.forIn_toList]
  refine wpAny_forIn_list _ (fun left r t => (r.1 = none ∧ t = s) ∧ ∀ v ∈ left, ∀ n, ofAClassStatement n v = pure false) _ (fun v left r t ht => ?_) (fun r t ht => ?_) _ _ ⟨⟨rfl, rfl⟩, all⟩
  · obtain ⟨⟨hr, rfl⟩, hall⟩ := ht
    rw [hall v (List.mem_cons_self ..)]
    refine wpAny_bind (wpAny_pure ?_)
    simp only [Bool.false_eq_true, if_false]
    exact wpAny_pure ⟨⟨rfl, rfl⟩, fun u hu => hall u (List.mem_cons_of_mem _ hu)⟩
  · obtain ⟨r1, r2⟩ := r
    obtain ⟨⟨hr, rfl⟩, _⟩ := ht
    dsimp only at hr
    subst hr
    exact wpAny_pure h
theorem byv_tup (T : Els knd) {k : List K} {b : Addr} {Q : Bool → Shared → Prop} (hk : IsTupleKey knd s.heap k b) (h : ∀ b, Q b s) : wpAny (model P w) A (hashByValue 8 (.ref b)) Q E s := by
  have ty := hk.typeIs
  obtain ⟨o, items, n, ho, _, hd, hi⟩ := hk
  have all : ∀ v ∈ items.toList, ∀ n, hashByValue n v = pure false := each_item (fun k v hv n => T.byv n k v hv) hi
  unfold hashByValue
  refine wpAny_bind (wpAny_specialOf ty F.slot_tuple_hash.lookup ?_)
  show wpAny _ _ (seqItems? (.ref b) >>= _) _ _ s
  refine wpAny_bind (wpAny_seqItems ho hd (wpAny_bind ?_))
  show wpAny _ _ (forIn items _ _) _ _ s
  rw [← Array.forIn_toList]
  refine wpAny_forIn_list _ (fun left r t => (r.1 = none ∧ t = s) ∧ ∀ v ∈ left, ∀ n, hashByValue n v = pure false) _ (fun v left r t ht => ?_) (fun r t ht => ?_) _ _ ⟨⟨rfl, rfl⟩, all⟩
  · obtain ⟨⟨hr, rfl⟩, hall⟩ := ht
    rw [hall v (List.mem_cons_self ..)]
    refine wpAny_bind (wpAny_pure ?_)
    simp only [Bool.not_false, if_true]
    exact wpAny_pure (wpAny_pure (h false))
  · obtain ⟨r1, r2⟩ := r
    obtain ⟨⟨hr, rfl⟩, _⟩ := ht
    dsimp only at hr
    subst hr
    exact wpAny_pure (h true)
theorem unseen (T : Els knd) {k : List K} {b : Addr} {Q : Bool → Shared → Prop} (hk : IsTupleKey knd s.heap k b) {ys : List Value} (hy : ∀ y ∈ ys, ∃ k' c, y = Value.ref c ∧ IsTupleKey knd s.heap k' c) (h : Q false s) :
    wpAny (model P w) A (searchCouldBeSeen (.ref b) ys) Q E s := by
  unfold searchCouldBeSeen
  refine wpAny_bind (wpAny_forIn_list _ (fun left r t => (r.1 = none ∧ t = s) ∧ ∀ y ∈ left, ∃ k' c, y = Value.ref c ∧ IsTupleKey knd s.heap k' c) _ (fun v left r t ht => ?_) (fun r t ht => ?_) _ _ ⟨⟨rfl, rfl⟩, hy⟩)
  · obtain ⟨⟨hr, rfl⟩, hall⟩ := ht
    obtain ⟨k', c, rfl, hc⟩ := hall v (List.mem_cons_self ..)
    have more : ∀ y ∈ left, ∃ k' c, y = Value.ref c ∧ IsTupleKey knd t.heap k' c := fun u hu => hall u (List.mem_cons_of_mem _ hu)
    dsimp only
    by_cases hv : (b == c || (carriedByValue (.ref b) && carriedByValue (.ref c))) = true
    · exact wp_if_pos hv (wpAny_pure ⟨⟨rfl, rfl⟩, more⟩)
    · refine wp_if_neg hv (wpAny_bind (wpAny_eqIsQuiet_tuple hk ?_))
      simp only [Bool.not_true, Bool.false_eq_true, if_false]
      refine wpAny_bind (wpAny_eqIsQuiet_tuple hc ?_)
      simp only [Bool.not_true, Bool.false_eq_true, if_false]
      refine wpAny_bind (cls_tup T hk ?_)
      simp only [Bool.false_eq_true, if_false]
      refine wpAny_bind (cls_tup T hc ?_)
      simp only [Bool.false_eq_true, if_false]
      exact wpAny_pure ⟨⟨rfl, rfl⟩, more⟩
  · obtain ⟨r1, r2⟩ := r
    obtain ⟨⟨hr, rfl⟩, _⟩ := ht
    dsimp only at hr
    subst hr
    exact wpAny_pure h

/-! ### the set -/
/-- what the object at a is: few entries, in the table's smallest form -/
structure Obj0 (P : Program) (w : World) (knd : PySem.KeyKind P w K) (h : Heap) (a : Addr) (L : List (Addr × List K)) (es : Array (Int × Value)) (ep : Nat) (t : SetTable) : Prop where
  ob : ∃ o, h.get? a = some o ∧ o.ExactSet ∧ o.data = .set es ep t
  rows : es.toList = L.map fun p => (hT knd p.2, Value.ref p.1)
  tab : TabOk t (L.map fun p => hT knd p.2)
  nd : (L.map (·.2)).Nodup
  led : w.params.followText "set-order" = true ∨ t.led = true
  m7 : t.mask = 7
  few : L.length ≤ 4
variable {a : Addr} {L : List (Addr × List K)} {es : Array (Int × Value)} {ep : Nat} {t : SetTable}
theorem Obj0.sz (R : Obj0 P w knd s.heap a L es ep t) : es.size = L.length := by
  have h := congrArg List.length R.rows
  rwa [Array.length_toList, List.length_map] at h
theorem Obj0.fit (R : Obj0 P w knd s.heap a L es ep t) : t.fits es.size = true := by
  have h1 := R.tab.sz
  have h2 := R.sz
  have h3 := R.few
  have h4 := R.m7
  rw [List.length_map] at h1
  have h5 : t.dummies.size = 0 := by rw [R.tab.dm]; rfl
  have h6 : t.fill = t.place.size := by
    unfold SetTable.fill
    omega
  unfold SetTable.fits
  rw [Bool.and_eq_true, beq_iff_eq, decide_eq_true_eq, h6, h4]
  omega
theorem Obj0.at (R : Obj0 P w knd s.heap a L es ep t) {i : Nat} {p : Addr × List K} (h : L[i]? = some p) : es[i]? = some (hT knd p.2, Value.ref p.1) := by
  rw [← Array.getElem?_toList, R.rows, List.getElem?_map, h]
  rfl
def pr (m : Nat) (h : Int) (c : Nat) : SetTable.Probe := nth m (runAt m (SetTable.bits h % (m + 1)) (SetTable.bits h)) c
theorem pr_j (m : Nat) (h : Int) (c : Nat) : (pr m h c).j = way m h c := rfl
theorem pr_on (m : Nat) (h : Int) (c q : Nat) : nth m (pr m h c) q = pr m h (c + q) := (nth_add m c _ q).symm
theorem pr_dummy (m : Nat) (h : Int) (c : Nat) : (pr m h c).dummy = none := by
  have go : ∀ (n : Nat) (p : SetTable.Probe), p.dummy = none → (nth m p n).dummy = none := fun n => by
    induction n with
    | zero => exact fun p e => e
    | succ n ih =>
      intro p e
      refine ih _ ?_
      unfold adv
      split
      · exact e
      · exact e
  exact go c _ rfl
theorem mem7 (t : SetTable) : t.sameMemory t.moves t.mask = some true := if_pos (beq_self_eq_true _)
/-- what a search behind a candidate does -/
theorem hunt (T : Els knd) (R : Obj0 P w knd s.heap a L es ep t) (ht : ∀ p ∈ L, IsTupleKey knd s.heap p.2 p.1) {x : Addr} {k : List K} (hx : IsTupleKey knd s.heap k x) (hu : A.units < cLine) {bad : Bool} {K0 : Nat} (hKf : K0 < 10 * SetTable.turns t.mask)
    (hK : way t.mask (hT knd k) K0 ∉ t.place.toList) (hKb : ∀ c, c < K0 → way t.mask (hT knd k) c ∈ t.place.toList) {Q : SetFound → Shared → Prop}
    (hin : ∀ i, (L.map (·.2))[i]? = some k → Q (.there (if bad = true then none else some i)) s) (hout : k ∉ L.map (·.2) → Q (.free (way t.mask (hT knd k) K0) false) s) :
    ∀ (fuel c : Nat) (stand : Option SetTable.Probe), stand.getD (t.probeStart (hT knd k)) = pr t.mask (hT knd k) c → c ≤ K0 → K0 - c < fuel →
      (∀ (i : Nat) p, L[i]? = some p → p.2 = k → ∃ c', c ≤ c' ∧ c' < K0 ∧ t.place.toList[i]? = some (way t.mask (hT knd k) c')) →
      wpAny (model P w) A (setSearchFrom a (.ref x) (hT knd k) bad fuel stand) Q E s := by
  intro fuel
  induction fuel with
  | zero => exact fun c stand _ _ hf _ => absurd hf (Nat.not_lt_zero _)
  | succ fuel ih =>
    intro c stand hst hc hf hre
    obtain ⟨o, ho, hex, hd⟩ := R.ob
    have gw : ¬ t.gaveWay = true := by
      unfold SetTable.gaveWay
      rw [mask_odd R.tab.mok]
      decide
    rw [setSearchFrom_succ]
    refine wpAny_bind (wpAny_setState_of ho hd R.fit ?_)
    dsimp only
    refine wp_if_neg gw ?_
    try refine wpAny_bind (wpAny_pure ?_)
    have hashAt : ∀ (i : Nat) p, L[i]? = some p → (es[i]?.map (·.1)).getD 0 = hT knd p.2 := fun i p hp => by
      rw [R.at hp]
      rfl
    have size1 : t.place.toList.length = L.length := by
      have z := R.tab.sz
      rw [List.length_map] at z
      rw [Array.length_toList, z]
    rcases go_spec t R.tab.ris R.tab.dm (fun i => (es[i]?.map (·.1)).getD 0) (hT knd k) (10 * SetTable.turns t.mask) (K0 - c) (pr t.mask (hT knd k) c) (pr_dummy _ _ _) (by omega) (fun q hq => by rw [pr_on, pr_j]; exact hKb _ (by omega))
      (by rw [pr_on, pr_j, show c + (K0 - c) = K0 by omega]; exact hK) with ⟨q, i, hq, hi, hh, hno, hp⟩ | ⟨hno, hp⟩
    · rw [pr_on, pr_j] at hi hp
      rw [pr_on] at hp
      rw [show t.probe (fun i => (es[i]?.map (·.1)).getD 0) (hT knd k) (stand.getD (t.probeStart (hT knd k))) = some (.candidate (way t.mask (hT knd k) (c + q)) i (pr t.mask (hT knd k) (c + (q + 1)))) from by rw [hst]; exact hp]
      dsimp only
      have hil : i < L.length := by
        have z := (List.getElem?_eq_some_iff.mp hi).1
        omega
      obtain ⟨p, hpL⟩ : ∃ p, L[i]? = some p := ⟨_, List.getElem?_eq_getElem hil⟩
      have hpm := List.mem_of_getElem? hpL
      have live : t.slot (way t.mask (hT knd k) (c + q)) = .live i := slot_live R.tab.ris hi
      have onward : wpAny (model P w) A (searchRest a (.ref x) (hT knd k) bad fuel es t (way t.mask (hT knd k) (c + q)) i (pr t.mask (hT knd k) (c + (q + 1)))) Q E s := by
        unfold searchRest
        rw [R.at hpL]
        dsimp only
        refine wpAny_bind (wpAny_holding (wpAny_eqBool_tuple hu (ht p hpm) hx (wpAny_bind (wpAny_setState_of ho hd R.fit ?_))))
        dsimp only
        have hkk : ∀ e : p.2 = k, (L.map (·.2))[i]? = some k := fun e => by
          rw [List.getElem?_map, hpL, ← e]
          rfl
        by_cases both : (bad && decide (p.2 = k)) = true
        · refine wp_if_pos both (wpAny_pure ?_)
          rw [Bool.and_eq_true, decide_eq_true_eq] at both
          have z := hin i (hkk both.2)
          rw [if_pos both.1] at z
          exact z
        · refine wp_if_neg both ?_
          try refine wpAny_bind (wpAny_pure ?_)
          rw [mem7]
          dsimp only
          simp only [if_true, live, R.at hpL]
          refine wpAny_bind (wpAny_isSame_ref_self (wpAny_bind (wpAny_pure ?_)))
          simp only [if_true]
          by_cases same : p.2 = k
          · refine wp_if_pos (by simp [same]) (wpAny_pure ?_)
            have z := hin i (hkk same)
            rw [if_neg (fun e => both (by rw [e, decide_eq_true same]; rfl))] at z
            exact z
          · refine wp_if_neg (by simp [same]) (ih (c + (q + 1)) _ rfl (by omega) (by omega) fun i0 p0 h0 hk0 => ?_)
            obtain ⟨c', l1, l2, l3⟩ := hre i0 p0 h0 hk0
            refine ⟨c', ?_, l2, l3⟩
            -- the entry itself is not passed by
            have n1 : ¬ c' < c + q := fun z => hno (c' - c) i0 (by omega) (by rw [pr_on, pr_j, show c + (c' - c) = c' by omega]; exact l3) ((hashAt i0 p0 h0).trans (congrArg (hT knd) hk0))
            have n2 : c' ≠ c + q := fun z => by
              rw [z] at l3
              have w2 := slot_live R.tab.ris l3
              rw [live] at w2
              injection w2 with w2
              rw [← w2, hpL] at h0
              exact same ((congrArg Prod.snd (Option.some.inj h0)).trans hk0)
            omega
      by_cases hl : t.led = true
      · refine wp_if_neg (by simp [hl]) ?_
        try refine wpAny_bind (wpAny_pure ?_)
        exact onward
      · refine wp_if_pos (by simp [hl]) (wpAny_bind (unseen T hx (fun y hy => ?_) (wp_if_neg (by decide) ?_)))
        · obtain ⟨e, he, rfl⟩ := List.mem_map.mp hy
          have he1 : e ∈ es.toList := by
            have z : e ∈ es ∧ e.1 = hT knd k := by simpa using he
            simpa using z.1
          rw [R.rows] at he1
          obtain ⟨p2, hp2, rfl⟩ := List.mem_map.mp he1
          exact ⟨p2.2, p2.1, rfl, ht p2 hp2⟩
        · try refine wpAny_bind (wpAny_pure ?_)
          exact onward
    · rw [pr_on, pr_j, show c + (K0 - c) = K0 by omega] at hp
      rw [show t.probe (fun i => (es[i]?.map (·.1)).getD 0) (hT knd k) (stand.getD (t.probeStart (hT knd k))) = some (.empty (way t.mask (hT knd k) K0) none) from by rw [hst]; exact hp]
      dsimp only
      refine wpAny_pure (hout fun hm => ?_)
      obtain ⟨p0, h0, hk0⟩ := List.mem_map.mp hm
      obtain ⟨i0, hi0⟩ := List.getElem?_of_mem h0
      obtain ⟨c', l1, l2, l3⟩ := hre i0 p0 hi0 hk0
      exact hno (c' - c) i0 (by omega) (by rw [pr_on, pr_j, show c + (c' - c) = c' by omega]; exact l3) ((hashAt i0 p0 hi0).trans (congrArg (hT knd) hk0))
theorem hunt0 (T : Els knd) (R : Obj0 P w knd s.heap a L es ep t) (ht : ∀ p ∈ L, IsTupleKey knd s.heap p.2 p.1) {x : Addr} {k : List K} (hx : IsTupleKey knd s.heap k x) (hu : A.units < cLine) {bad : Bool} {Q : SetFound → Shared → Prop}
    (hin : ∀ i, (L.map (·.2))[i]? = some k → Q (.there (if bad = true then none else some i)) s)
    (hout : ∀ K0, k ∉ L.map (·.2) → way t.mask (hT knd k) K0 ∉ t.place.toList → (∀ c, c < K0 → way t.mask (hT knd k) c ∈ t.place.toList) → Q (.free (way t.mask (hT knd k) K0) false) s) :
    wpAny (model P w) A (setSearch a (.ref x) (hT knd k) bad) Q E s := by
  have few := R.few
  have m7 := R.m7
  obtain ⟨K0, hKf, hK, hKb⟩ := R.tab.first (by rw [List.length_map]; omega) (hT knd k)
  have turns : 10 * SetTable.turns t.mask < 90000 := by
    unfold SetTable.turns
    omega
  unfold setSearch
  refine hunt T R ht hx hu hKf hK hKb hin (fun n => hout K0 n hK hKb) 100000 0 none rfl (Nat.zero_le _) (by omega) fun i p hp hk => ?_
  have hi : (L.map fun p => hT knd p.2)[i]? = some (hT knd k) := by
    rw [List.getElem?_map, hp, ← hk]
    rfl
  have hil : i < t.place.toList.length := by
    have z1 := (List.getElem?_eq_some_iff.mp hp).1
    have z2 := R.tab.sz
    rw [List.length_map] at z2
    rw [Array.length_toList]
    omega
  have hj := List.getElem?_eq_getElem hil
  obtain ⟨c, hc, e⟩ := R.tab.before hK hi hj
  exact ⟨c, Nat.zero_le _, hc, by rw [hj, e]⟩
theorem setFindIn_succ (a : Addr) (x : Value) (h : Int) (fuel : Nat) : setFindIn a x h (fuel + 1) = (do
    let (es, _, _) ← setState a
    if byScan x es then
      rule "set.find.by-scan"
      match ← setScan a x h false es with
      | .found i => return some i
      | .absent => return none
      | .anew => return ← setFindIn a x h fuel
    match ← setSearch a x h with
    | .there i => return i
    | .free .. => return none) := by rfl
theorem Obj0.ty (R : Obj0 P w knd s.heap a L es ep t) : s.TypeIs (.ref a) "set" := let ⟨o, ho, hex, _⟩ := R.ob; ⟨o, ho, hex.1⟩
/-- x in seen -/
theorem has_at (T : Els knd) (R : Obj0 P w knd s.heap a L es ep t) (ht : ∀ p ∈ L, IsTupleKey knd s.heap p.2 p.1) {x : Addr} {k : List K} (hx : IsTupleKey knd s.heap k x) (hu : A.units + 8 < cLine) {Q : Value → Shared → Prop}
    (h : ∀ tk, Q (.bool (decide (k ∈ L.map (·.2)))) { s with toks := tk }) : wpAny (model P w) A (compareOp .In (.ref x) (.ref a)) Q E s := by
  have u1 : A.in1.units < cLine := by show A.units + 1 < cLine; omega
  show wpAny _ _ (do return .bool (← contains (.ref a) (.ref x))) Q E s
  refine wpAny_bind ?_
  unfold contains
  try with_reducible refine wpAny_holding ?_
  refine wpAny_bind (wpAny_specialOf R.ty F.slot_set_contains.lookup ?_)
  show wpAny _ _ (if (some (Value.builtin "set.__contains__") == some Value.none) = true then _ else _) _ E _
  rw [if_neg (by rw [beq_builtin_none]; decide)]
  refine wpAny_bind (wpAny_callSpecialUnlessNone?_slot (name := Str.ofString "__contains__") R.ty F.slot_set_contains (wpAny_call_entry F.slot_set_contains R.ty entry_set_contains ?_ (F.args_set_contains_2 _ _)))
  unfold Builtin.«frozenset.__contains__» Builtin.Frozenset.oneOther
  simp only [bind_assoc, List.isEmpty_nil]
  unfold setContains Builtin.Frozenset.addrOf Builtin.Frozenset.withSetAsKey
  refine wpAny_bind (wpAny_pure ?_)
  try dsimp only
  refine wpAny_bind (wpAny_pure ?_)
  try dsimp only
  refine wpAny_bind (wpAny_tryCatch (wpAny_holding (wpAny_bind (wpAny_pyHash_tuple u1 hx ?_))))
  unfold setFind
  rw [show (100000 : Nat) = 99999 + 1 from rfl, setFindIn_succ]
  obtain ⟨o, ho, hex, hd⟩ := R.ob
  refine wpAny_bind (wpAny_bind (wpAny_setState_of ho hd R.fit ?_))
  dsimp only
  refine wp_if_neg (by simp [byScan, Value.scannable]) ?_
  try refine wpAny_bind (wpAny_pure ?_)
  refine wpAny_bind (hunt0 T (s := { s with toks := s.toks + (k.length + 1) }) R ht hx u1 (bad := false) (fun i hi => ?_) fun K0 hm _ _ => ?_)
  · dsimp only
    rw [if_neg Bool.false_ne_true]
    refine wpAny_pure (wpAny_pure ?_)
    show wpAny _ _ (ret (Value.bool true)) _ _ _
    have z := h (s.toks + (k.length + 1))
    rw [decide_eq_true (List.mem_of_getElem? hi)] at z
    exact wpAny_pure ⟨_, rfl, wpAny_truthy_bool (wpAny_pure z)⟩
  · dsimp only
    refine wpAny_pure (wpAny_pure ?_)
    show wpAny _ _ (ret (Value.bool false)) _ _ _
    have z := h (s.toks + (k.length + 1))
    rw [decide_eq_false hm] at z
    exact wpAny_pure ⟨_, rfl, wpAny_truthy_bool (wpAny_pure z)⟩
theorem tab_plain {t : SetTable} {hs : List Int} {b : Bool} (h : TabOk t hs) : TabOk { t with plain := b } hs := ⟨h.ris, h.dm, h.sz, h.mok, h.bd, h.reach⟩
theorem tup_but {h h' : Heap} {k : List K} {a b : Addr} {o : Obj} (hb : IsTupleKey knd h k b) (ho : h.get? a = some o) (hd : o.data = .set es ep t) (hs : Heap.SameBut a h h') : IsTupleKey knd h' k b := by
  obtain ⟨o', items, n, h1, h2, h3, h4⟩ := hb
  refine ⟨o', items, n, (hs.2 b fun e => ?_).trans h1, h2, h3, h4⟩
  rw [e, ho] at h1
  obtain rfl := Option.some.inj h1
  rw [hd] at h3
  cases h3
/-- seen.add(x) -/
theorem put_at (T : Els knd) (R : Obj0 P w knd s.heap a L es ep t) (ht : ∀ p ∈ L, IsTupleKey knd s.heap p.2 p.1) {x : Addr} {k : List K} (hx : IsTupleKey knd s.heap k x) (hu : A.units < cLine) (hfew : k ∉ L.map (·.2) → L.length + 1 ≤ 4) {Q : Bool → Shared → Prop}
    (hQ : ∀ b h' L' es' ep' t', Heap.SameBut a s.heap h' → Obj0 P w knd h' a L' es' ep' t' → (∀ p, p ∈ L' → p ∈ L ∨ p = (x, k)) → (∀ j, j ∈ L'.map (·.2) ↔ j ∈ L.map (·.2) ∨ j = k) → Q b { s with heap := h' }) :
    wpAny (model P w) A (setAddHashed a (.ref x) (hT knd k)) Q E s := by
  obtain ⟨o, ho, hex, hd⟩ := R.ob
  have few := R.few
  have m7 := R.m7
  unfold setAddHashed
  refine wpAny_holding ?_
  rw [show (100000 : Nat) = 99999 + 1 from rfl, setAddHashedIn_succ]
  refine wpAny_bind (wpAny_setState_of ho hd R.fit ?_)
  dsimp only
  refine wp_if_neg (by simp [byScan, Value.scannable]) ?_
  try refine wpAny_bind (wpAny_pure ?_)
  refine wpAny_bind (hunt0 T R ht hx hu (bad := true) (fun i hi => ?_) fun K0 hm hK hb => ?_)
  · dsimp only
    have hm := List.mem_of_getElem? hi
    exact wpAny_pure (hQ false s.heap L es ep t (Heap.SameBut.refl a s.heap) R (fun _ h => .inl h) fun j => ⟨.inl, fun h => h.elim id fun e => e ▸ hm⟩)
  · dsimp only
    refine wpAny_bind (wpAny_setState_of ho hd R.fit ?_)
    dsimp only
    obtain ⟨q1, q2, q3, q4, q5, q6, q7, q8, q9⟩ := R.tab.put hK hb
    generalize t.put (way t.mask (hT knd k) K0) = pt at q1 q3 q4 q5 q6 q7 q8 q9 ⊢
    obtain ⟨t1, p⟩ := pt
    dsimp only at q1 q3 q4 q5 q6 q7 q8 q9 ⊢
    subst q1
    have f4 := hfew hm
    have pm : (L.take (SetTable.below t.place (way t.mask (hT knd k) K0)) ++ (x, k) :: L.drop (SetTable.below t.place (way t.mask (hT knd k) K0))).Perm ((x, k) :: L) := by
      have z := List.perm_middle (a := (x, k)) (l₁ := L.take (SetTable.below t.place (way t.mask (hT knd k) K0))) (l₂ := L.drop (SetTable.below t.place (way t.mask (hT knd k) K0)))
      rwa [List.take_append_drop] at z
    have hin : (SetTable.insertAt es (SetTable.below t.place (way t.mask (hT knd k) K0)) (hT knd k, Value.ref x)).toList = (L.take (SetTable.below t.place (way t.mask (hT knd k) K0)) ++ (x, k) :: L.drop (SetTable.below t.place (way t.mask (hT knd k) K0))).map fun p => (hT knd p.2, Value.ref p.1) := by
      rw [SetTable.toList_insertAt, R.rows, List.map_append, List.map_cons, List.map_take, List.map_drop]
    have hhs : (L.take (SetTable.below t.place (way t.mask (hT knd k) K0)) ++ (x, k) :: L.drop (SetTable.below t.place (way t.mask (hT knd k) K0))).map (fun p => hT knd p.2) = (L.map fun p => hT knd p.2).take (SetTable.below t.place (way t.mask (hT knd k) K0)) ++ hT knd k :: (L.map fun p => hT knd p.2).drop (SetTable.below t.place (way t.mask (hT knd k) K0)) := by
      rw [List.map_append, List.map_cons, List.map_take, List.map_drop]
    rw [← hhs] at q3
    generalize L.take (SetTable.below t.place (way t.mask (hT knd k) K0)) ++ (x, k) :: L.drop (SetTable.below t.place (way t.mask (hT knd k) K0)) = L1 at pm q3 hin
    generalize SetTable.insertAt es (SetTable.below t.place (way t.mask (hT knd k) K0)) (hT knd k, Value.ref x) = es1 at hin ⊢
    have len1 : L1.length = L.length + 1 := pm.length_eq
    have nd1 : (L1.map (·.2)).Nodup := (pm.map (·.2)).nodup_iff.mpr (List.nodup_cons.mpr ⟨hm, R.nd⟩)
    have es1n : es1.size = L.length + 1 := by
      have z := congrArg List.length hin
      rw [Array.length_toList, List.length_map, len1] at z
      exact z
    have store : ∀ t2 : SetTable, TabOk t2 (L1.map fun p => hT knd p.2) → t2.mask = 7 → t2.led = t.led → t2.fill = L.length + 1 → wpAny (model P w) A (storeSet a es1 t2 >>= fun _ => (if (!false && t2.tooFull) = true then setRelay a (SetTable.grown (es.size + 1)) >>= fun _ => pure true else pure true)) Q E s := fun t2 k1 k2 k3 k4 => by
      refine wpAny_bind (wpAny_storeSet_of ho hd ?_ (by rw [es1n, sizeLine_eq]; omega))
      have full : ¬ t2.tooFull = true := by
        unfold SetTable.tooFull
        rw [decide_eq_true_eq, k2, k4]
        omega
      have sb : Heap.SameBut a s.heap (s.heap.update a (Obj.putSet es1 t2)) := Heap.SameBut.update ..
      have ho1 := store_at (es' := es1) (t' := t2) ho hd
      refine wp_if_neg (by simp [full]) (wpAny_pure (hQ true _ L1 es1 (ep + 1) t2 sb ⟨⟨_, ho1, ⟨hex.1, hex.2.1, hex.2.2⟩, rfl⟩, hin, k1, nd1, by rw [k3]; exact R.led, k2, by rw [len1]; exact f4⟩ (fun p hp => ?_) fun j => ?_))
      · rcases List.mem_cons.mp (pm.mem_iff.mp hp) with e | e
        · exact .inr e
        · exact .inl e
      · have z := (pm.map (·.2)).mem_iff (a := j)
        rw [z, List.map_cons, List.mem_cons]
        exact ⟨fun h => h.elim .inr .inl, fun h => h.elim .inr .inl⟩
    have fill1 : t1.fill = L.length + 1 := by
      rw [q9, List.length_map]
    by_cases hp : t1.plain = true
    · refine wp_if_pos hp (wpAny_bind (byv_tup T hx fun b => ?_))
      cases b with
      | true => exact store t1 q3 (q4.trans m7) q5 fill1
      | false => exact store { t1 with plain := false } (tab_plain q3) (q4.trans m7) q5 fill1
    · refine wp_if_neg hp (wpAny_bind (wpAny_pure ?_))
      exact store t1 q3 (q4.trans m7) q5 fill1
end
end BwS
/-! Rules for a set of few tuples of texts: set(), in, add. -/
namespace BW
open PySem PySem.Spec PyProof.Rows L2
def SetTw (P : Program) (w : World) (a : Addr) (L : List (Addr × List Str)) : HO := .ext fun h => ∃ es ep t, BwS.Obj0 P w (strKind P w) h a L es ep t
theorem obj0_at {P : Program} {w : World} {h h' : Heap} {a : Addr} {L : List (Addr × List Str)} (k : ∀ o, h.get? a = some o → h'.get? a = some o) (R : ∃ es ep t, BwS.Obj0 P w (strKind P w) h a L es ep t) : ∃ es ep t, BwS.Obj0 P w (strKind P w) h' a L es ep t := by
  obtain ⟨es, ep, t, ⟨o, ho, hx⟩, r2, r3, r4, r5, r6, r7⟩ := R
  exact ⟨es, ep, t, ⟨o, k o ho, hx⟩, r2, r3, r4, r5, r6, r7⟩
theorem setTw_ok {P : Program} {w : World} {H : Hp} {h : Heap} {a : Addr} {L : List (Addr × List Str)} (R : ∃ es ep t, BwS.Obj0 P w (strKind P w) h a L es ep t) : ObjOk P w H h a (SetTw P w a L) := by
  have R' := R
  obtain ⟨es, ep, t, ⟨o, ho, _⟩, _⟩ := R'
  exact ⟨R, ⟨o, ho⟩, fun h1 h2 p k => obj0_at k p⟩
theorem items_str {P : Program} {w : World} : ∀ {k : List Str} {us : List Value}, Vals (k.map V.str) us → ItemsAre (strKind P w) k us
  | [], _, .nil => .nil
  | z :: k, _, .cons r t => by
    obtain ⟨tk, rfl⟩ := r
    exact .cons (strKind_is P w z tk) (items_str t)
section
variable {X : Cx} {pins : List (Addr × Obj)} {σ : L2.St} {H : Hp} {s : Shared}
theorem setTw_get {a : Addr} {L : List (Addr × List Str)} (I : Inv X pins σ H s) (ha : H a = some (SetTw X.prog X.w a L)) : ∃ es ep t, BwS.Obj0 X.prog X.w (strKind X.prog X.w) s.heap a L es ep t := (I.hok a _ ha).1
theorem tupS_at {b : Addr} {k : List Str} (I : Inv X pins σ H s) (h : SqT X.K H b (k.map V.str)) : IsTupleKey (strKind X.prog X.w) s.heap k b := by
  obtain ⟨us, r, ⟨o, ho, hc, n, hd⟩, _⟩ := I.tuple h
  refine ⟨o, us.toArray, n, ho, hc, hd, ?_⟩
  rw [List.toList_toArray]
  exact items_str r
/-- set() -/
def rSetTw0 (P : Program) (w : World) : List V → Hp → VK → Prop := fun xs H Q => xs = [] ∧ ∀ p, H p = none → Q (.ref p) (upd H p (SetTw P w p []))
theorem cr_setTw0 : CallR X (.type "set") (rSetTw0 X.prog X.w) := by
  intro pins s σ H xs us Q I r h
  obtain ⟨rfl, q⟩ := h
  cases r
  refine setR_new fun _ => ?_
  have ho : (s.heap.push { cls := .type "set", dict := none, data := .set #[] 0 (.fresh 0 0 (!X.w.params.followText "set-order")) }).get? s.heap.objs.size = some { cls := .type "set", dict := none, data := .set #[] 0 (.fresh 0 0 (!X.w.params.followText "set-order")) } := Heap.get?_push_size _ rfl
  have new : BwS.Obj0 X.prog X.w (strKind X.prog X.w) (s.heap.push { cls := .type "set", dict := none, data := .set #[] 0 (.fresh 0 0 (!X.w.params.followText "set-order")) }) s.heap.objs.size [] #[] 0 (.fresh 0 0 (!X.w.params.followText "set-order")) :=
    ⟨⟨_, ho, ⟨rfl, rfl, rfl⟩, rfl⟩, rfl, ⟨List.Pairwise.nil, rfl, rfl, .inl rfl, fun x hx => (nomatch hx), fun i h j hi => (by simp at hi)⟩, List.nodup_nil, by
      show _ ∨ (!X.w.params.followText "set-order") = true
      cases X.w.params.followText "set-order"
      · exact .inr rfl
      · exact .inl rfl, rfl, Nat.zero_le _⟩
  exact ⟨.ref _, upd H s.heap.objs.size (SetTw X.prog X.w s.heap.objs.size []), I.laid (t' := s.toks) (fun b u e => Heap.get?_push_of_some _ e) (Nat.le_refl _) (setTw_ok ⟨_, _, _, new⟩), rfl, q _ (I.hok.fresh (Nat.le_refl _))⟩
/-- t in seen -/
def rInTw (K : PySem.W.Frag) (P : Program) (w : World) : R2 := fun x y H Q => ∃ (b a : Addr) (ss : List Str) (L : List (Addr × List Str)), x = .ref b ∧ y = .ref a ∧ H a = some (SetTw P w a L) ∧ SqT K H b (ss.map V.str) ∧ (∀ p ∈ L, SqT K H p.1 (p.2.map V.str)) ∧ Q (.bl (decide (ss ∈ L.map (·.2)))) H
theorem op_inTw (hu : X.A.units + 64 < cLine) : OpR X (compareOp .In) (rInTw X.K X.prog X.w) := by
  intro pins s σ H x y v u Q I rx ry h
  obtain ⟨b, a, ss, L, rfl, rfl, ha, hb, hL, q⟩ := h
  cases rx
  cases ry
  obtain ⟨es, ep, t, R⟩ := setTw_get I ha
  exact BwS.has_at BwS.els_str R (fun p hp => tupS_at I (hL p hp)) (tupS_at I hb) (by omega) fun tk => ⟨.bl _, H, I.tok tk, rfl, q⟩
/-- seen.add(t) -/
def rAddTw (K : PySem.W.Frag) (P : Program) (w : World) : V → List V → Hp → VK → Prop := fun x xs H Q => ∃ (a b : Addr) (ss : List Str) (L : List (Addr × List Str)), x = V.ref a ∧ xs = [.ref b] ∧ H a = some (SetTw P w a L) ∧ SqT K H b (ss.map V.str) ∧ (∀ p ∈ L, SqT K H p.1 (p.2.map V.str)) ∧
  (ss ∉ L.map (·.2) → L.length + 1 ≤ 4) ∧ ∀ L', (∀ p, p ∈ L' → p ∈ L ∨ p = (b, ss)) → (∀ j, j ∈ L'.map (·.2) ↔ j ∈ L.map (·.2) ∨ j = ss) → (L'.map (·.2)).Nodup → Q .non (upd H a (SetTw P w a L'))
theorem mt_addTw (hu : X.A.units + 64 < cLine) : MtR X "set.add" (rAddTw X.K X.prog X.w) := by
  intro pins s σ H x xs v us Q I rx rxs h
  obtain ⟨a, b, ss, L, rfl, rfl, ha, hb, hL, few, q⟩ := h
  cases rx
  cases rxs with
  | cons ry rt =>
    cases rt
    cases ry
    obtain ⟨es, ep, t, R⟩ := setTw_get I ha
    have u1 : X.A.in1.units < cLine := by show X.A.units + 1 < cLine; omega
    have hx := tupS_at I hb
    have ht := fun p hp => tupS_at I (hL p hp)
    refine wpAny_call_entry F.slot_set_add R.ty F.entry_set_add ?_ (F.args_set_add_2 _ _)
    unfold Builtin.«set.add» Builtin.Frozenset.oneOther
    simp only [bind_assoc, List.isEmpty_nil]
    unfold setAdd Builtin.Frozenset.addrOf
    refine wpAny_bind (wpAny_pure ?_)
    try dsimp only
    refine wpAny_bind (wpAny_pure ?_)
    try dsimp only
    refine wpAny_bind (wpAny_holding (wpAny_bind (wpAny_pyHash_tuple u1 hx ?_)))
    refine BwS.put_at BwS.els_str (s := { s with toks := s.toks + (ss.length + 1) }) R ht hx u1 few fun bb h' L' es' ep' t' sb R' h1 h2 => ?_
    show wpAny _ _ (ret Value.none) _ _ _
    have he : ∃ u, h'.get? a = some u := by
      obtain ⟨o, ho, _⟩ := R'.ob
      exact ⟨o, ho⟩
    exact wpAny_pure ⟨_, rfl, .non, upd H a (SetTw X.prog X.w a L'), I.write (e := a) (t' := s.toks + (ss.length + 1)) (by rw [ha]; trivial) (.inl rfl) (fun c u hc hu => (sb.2 c hc).trans hu) he (setTw_ok ⟨_, _, _, R'⟩), rfl, q L' h1 h2 R'.nd⟩
def tAddTw (K : PySem.W.Frag) (P : Program) (w : World) (to : TE) (t : TA) : TE := fun σ H Q => to σ H fun x H1 => (∃ a L, x = V.ref a ∧ H1 a = some (SetTw P w a L)) ∧ t σ H1 fun xs H2 => rAddTw K P w x xs H2 Q
variable {o e : Expr} {es : List Expr} {to : TE} {t : TA} {apos cpos : Pos}
theorem pe_addTw (hu : X.A.units + 64 < cLine) (ho : PE X o to) (ha : PA X (e :: es) t) (hb : attributeBase o "add" X.env (eval o X.env) = eval o X.env := by rfl)
    (hf : ((backTo cpos (starEach (e :: es) X.env)).all (fun x => !x.1) && (backToKw cpos (keywordEach [] X.env)).all (fun x => x.1.isSome) && decide ((e :: es).length + ([] : List Keyword).length + (if ([] : List Keyword).isEmpty then 0 else 1) < 30)) = true := by rfl)
    (hl : (apos.endLine == cpos.line) = true := by rfl) (hst : starEach (e :: es) X.env = (false, eval e X.env) :: starEach es X.env := by rfl) (hp : (backTo cpos (starEach es X.env)).any (·.1) = false := by rfl) :
    PE X (.Call (.Attribute o "add" apos) (e :: es) [] cpos) (tAddTw X.K X.prog X.w to t) := by
  constructor
  intro pins s σ H Q I h
  refine wpAny_Call_method_late hb hf hl rfl (thn (ho.run pins s σ H _ I h) fun v s1 hh => ?_)
  obtain ⟨x, H1, I1, r1, ⟨a, L, rfl, hka⟩, q1⟩ := hh
  obtain ⟨es0, ep0, t0, R⟩ := setTw_get I1 hka
  cases r1
  refine ⟨"set", "set.add", F.plainAttrs_set, F.slot_set_add, F.type_set_add, R.ty, fun b z => ?_, ?_⟩
  · cases z
    obtain ⟨oo, hoo, hex, _⟩ := R.ob
    exact ⟨oo, hoo, hex.2.1⟩
  · have hA := ha.run cpos pins s1 σ H1 _ I1 q1
    rw [hst] at hA ⊢
    refine Calls.callWith_builtin (by show (false || (backTo cpos (starEach es X.env)).any (·.1)) = false; rw [hp]; rfl) (Calls.evalArgs_plain (thn hA fun us s2 hh => ?_))
    obtain ⟨vs, H2, I2, r2, q2⟩ := hh
    exact mt_addTw hu pins s2 σ H2 (.ref a) vs (.ref a) us Q I2 rfl r2 q2
end
end BW
namespace K01
open PySem PySem.Spec PyProof.Rows L2 BW
abbrev sFirst : Stmt := topS 17
/-- an item that a set may hold: an int, a text, a tuple of texts -/
inductive Tk where
  | k (key : Key)
  | t (ss : List Str)
  deriving DecidableEq
def IsTk (K : PySem.W.Frag) (H : Hp) (v : V) : Tk → Prop
  | .k key => v = kV key
  | .t ss => ∃ b, v = .ref b ∧ H b = some (.tup (ss.map V.str))
theorem IsTk.mono {K : PySem.W.Frag} {H H' : Hp} {v : V} {t : Tk} (e : Evl.Ex H H') (h : IsTk K H v t) : IsTk K H' v t := by
  cases t with
  | k key => exact h
  | t ss =>
    obtain ⟨b, hb, hs⟩ := h
    exact ⟨b, hb, e _ _ hs⟩
def tkOk : Tk → Prop
  | .k (.inl _) => True
  | .k (.inr z) => z.length ≤ 1000 ∧ PySem.PyData.strOk z = true
  | .t ss => ss.length ≤ 20 ∧ ∀ z ∈ ss, z.length ≤ 1000 ∧ PySem.PyData.strOk z = true
theorem knd_key {H : Hp} {key : Key} (h : tkOk (.k key)) : ∃ T, Knd H (kV key) T ∧ (T == "list") = false ∧ (T == "tuple") = false := by
  cases key with
  | inl i => exact ⟨"int", .int i, by decide, by decide⟩
  | inr z => exact ⟨"str", .str h.1, by decide, by decide⟩
/-- each of the one for each of the other -/
def Each2 (R : V → V → Prop) (xs ys : List V) : Prop := ys.length = xs.length ∧ ∀ (i : Nat) x y, xs[i]? = some x → ys[i]? = some y → R x y
/-- a list or a tuple that was made -/
def SqP (H : Hp) (a : Addr) (xs : List V) : Prop := H a = some (.lst xs) ∨ H a = some (.tup xs)
theorem SqP.ex {H H' : Hp} {a : Addr} {xs : List V} (e : Evl.Ex H H') (h : SqP H a xs) : SqP H' a xs := h.elim (fun h => .inl (e _ _ h)) (fun h => .inr (e _ _ h))
theorem SqP.x {K : PySem.W.Frag} {H : Hp} {a : Addr} {xs : List V} (h : SqP H a xs) : SqX K H a xs := h.elim (fun h => .inl (Evl.sq_of h)) (fun h => .inr (Evl.st_of h))
section
variable {P : Program} {w : World} {K : PySem.W.Frag} {mg : Str → Option Value} {base : Heap}
theorem sc_fx : FnScope ["value", "part"] ["value"] (defScope sFixed) := ⟨rfl, rfl, rfl, by decide +kernel, rfl, by decide +kernel, by decide +kernel⟩
/-- nothing is promised -/
theorem ok_none {k : Nat} {f : Addr} {fd : FuncData} {ps : List Str} : FnOk P w K mg base CX0 k f fd ps (fun _ _ _ _ => False) := ⟨fun _ _ _ _ h => h.elim, fun _ _ _ _ _ _ _ _ _ _ _ _ _ h => h.elim⟩
def spFix0 : Sp := fun vs H Q _ => ∃ (key : Key), vs = [kV key] ∧ tkOk (.k key) ∧ Evl.RetV (kV key) H Q
theorem ok_fix0 {f : Addr} {fd : FuncData} {k : Nat} (T : Tx mg) (F : Fun K "fixed" "fixed" sFixed f fd) (b : Binds K fd ["value"] []) (g : mg "fixed" = some (.ref f)) (kp : PySem.W.keepIn K (.ref f) = true) : FnOk P w K mg base CX0 (k + 1) f fd ["value"] spFix0 := by
  refine F.ok sc_fx (fun vs H Q E h => ?_) (fun cdv A outer s H vs Q E hr h => ?_)
  · obtain ⟨key, rfl, _⟩ := h
    rfl
  · obtain ⟨key, rfl, ok, q⟩ := h
    have nd := sc_fx.nd
    have D : Df P w K mg base k "fixed" ["value"] (fun _ _ _ _ => False) f fd := ⟨ok_none, b, g, kp⟩
    refine ⟨_, pss_cons (ps_if (pt_val (pe_callB call_isiT (by rfl) T.isi (by decide +kernel) (pa_cons (pv 0) (pa_cons (pe_tup (pa_cons (pe_bltn (v := .ty "list") (by rfl) T.list (by decide +kernel) rfl) (pa_cons (pe_bltn (v := .ty "tuple") (by rfl) T.tuple (by decide +kernel) rfl) pa_nil))) pa_nil))))
        (pss_one (ps_ret (pe_callTy call_tuple_of (by rfl) T.tuple (by decide +kernel) (pa_cons (pe_lc (own := [("part", 1)]) (g := gName 1) (tt := tYes) rfl nd (pi_seq (pv 0))
          (blkOk_by (N := ["value", "part"]) (sc := defScope sFixed) (by decide +kernel)) (fun _ _ _ _ _ => pg_name (i := 1) nd rfl (Or.inl rfl)) (fun _ _ _ _ _ => pts_nil) (fun _ _ _ _ _ => pe_df D hr (pa_cons (pv 1) pa_nil))) pa_nil)))) pss_nil)
      (pss_one (ps_ret (pv 0))), ?_⟩
    obtain ⟨t, kd, t1, t2⟩ := knd_key (H := H) ok
    have hb : Evl.Ev _ _ H (.bl false) := Evl.ev_is (ev_isi2 (K := K) (Evl.ev_var (σ := L2.start ["value", "part"] [kV key]) (i := 0) rfl) kd (kd_list kd) (kd_tuple kd)) (by rw [t1, t2]; rfl)
    exact Evl.q_when (b := false) (Evl.et_B hb) (fun z => nomatch z) (fun _ H1 e1 => Evl.s_ret (Evl.ev_var rfl) fun H2 e2 => q.go (e1.trans e2))
theorem ev_seqL {a : Addr} {xs : List V} {H : Hp} (h : SqP H a xs) : Evl.Ev (tCB (rIsiT K) (tCons (tVar 0) (tCons (tTup (tCons (tC (.ty "list")) (tCons (tC (.ty "tuple")) tNil))) tNil))) (L2.start ["value", "part"] [V.ref a]) H (.bl true) := fun H1 e Q q =>
  ⟨.ref a, rfl, (by show 2 ≤ sizeLine; decide), fun p np => by
    have eN := Evl.Ex.new (o := .tup [V.ty "list", V.ty "tuple"]) np
    have hx := h.ex (e.trans eN)
    obtain ⟨t, ht, k1, k2⟩ : ∃ t : String, TyX K (upd H1 p (.tup [V.ty "list", V.ty "tuple"])) (.ref a) (.type t) ∧ ∃ b1 b2, kitB t "list" = some b1 ∧ kitB t "tuple" = some b2 ∧ (b1 || b2) = true := by
      rcases hx with hx | hx
      · exact ⟨"list", .base (.lst hx), true, false, by decide +kernel, by decide +kernel, rfl⟩
      · exact ⟨"tuple", .base (.tup hx), false, true, by decide +kernel, by decide +kernel, rfl⟩
    obtain ⟨b2, h1, h2, h3⟩ := k2
    refine ⟨.ref a, p, [.ty "list", .ty "tuple"], .type t, [.type "list", .type "tuple"], k1 || b2, rfl, upd_same, .cons (.ty _) (.cons (.ty _) .nil), ht, kitAny_cons (kit_ty h1) (fun z => by
      subst z
      exact kitAny_cons (kit_ty h2) (fun z => by
        subst z
        exact kitAny_nil) (fun z => z)) (fun z => by
      subst z
      rfl), ?_⟩
    rw [h3]
    exact q _ eN⟩
def spFixS (Pin : V → Hp → Prop) (R : V → V → Hp → Prop) : Sp := fun vs H Q _ => ∃ (a : Addr) (xs : List V), vs = [.ref a] ∧ SqP H a xs ∧ xs.length ≤ 20 ∧ (∀ x ∈ xs, Pin x H) ∧
  ∀ p ys H', H p = none → Evl.Ex H H' → H' p = some (.tup ys) → Each2 (fun x y => R x y H') xs ys → Q (.ref p) H'
/-- [f(x) for x in xs], each result told by a word -/
theorem en_lcS {tl te : TE} {σ : L2.St} {H : Hp} {a : Addr} {xs : List V} {j : Nat} {vs : List Nat} {R : V → V → Hp → Prop} (mR : ∀ x y H H', Evl.Ex H H' → R x y H → R x y H') (mU : ∀ x y (H : Hp) (D : Addr) zs o, H D = some (.lst zs) → R x y H → R x y (upd H D o)) (h : Evl.Ev tl σ H (.ref a)) (hx : SqX K H a xs) (hz : xs.length ≤ 1000) (hw : ∀ x, wipe ((wipe σ vs).set j (some x)) vs = wipe σ vs)
    (he : ∀ (i : Nat) (x : V) H1, Evl.Ex H H1 → xs[i]? = some x → Evp te ((wipe σ vs).set j (some x)) H1 (fun y H2 => R x y H2)) : ∀ H1, Evl.Ex H H1 → ∀ Q : VK, (∀ p ys H2, H1 p = none → Evl.Ex H1 H2 → H2 p = some (.lst ys) → Each2 (fun x y => R x y H2) xs ys → Q (.ref p) H2) →
    tLc (iSeq K tl) (gName j) tYes te vs σ H1 Q := fun H0 e Q q => h H0 e _ fun H1 e1 => ⟨a, rfl, by
  let Pv : Addr → Nat → Hp → Prop := fun Dl i G => ∃ acc : List V, G Dl = some (.lst acc) ∧ acc.length = i ∧ Evl.Ex H1 G ∧ ∀ (t : Nat) x y, xs[t]? = some x → acc[t]? = some y → R x y G
  have turn : ∀ (Dl : Addr) (i : Nat) (x : V) (G : Hp), H1 Dl = none → xs[i]? = some x → Pv Dl i G → wipe ((wipe σ vs).set j (some x)) vs = wipe σ vs ∧ tYes ((wipe σ vs).set j (some x)) G fun b H3 => if b = true then te ((wipe σ vs).set j (some x)) H3 fun y H4 => ∃ acc, H4 Dl = some (.lst acc) ∧ acc.length < sizeLine ∧ Pv Dl (i + 1) (upd H4 Dl (.lst (acc ++ [y]))) else Pv Dl (i + 1) H3 := fun Dl i x G hD hi hp => by
    obtain ⟨acc, hd, hl, eG, hR⟩ := hp
    refine ⟨hw x, ?_⟩
    dsimp only [tYes]
    rw [if_pos rfl]
    have li := (List.getElem?_eq_some_iff.mp hi).1
    refine he i x G ((e.trans e1).trans eG) hi G (Evl.Ex.refl G) _ fun y G2 e2 ry => ⟨acc, e2 _ _ hd, small_of (by omega), acc ++ [y], upd_same, by rw [List.length_append, hl]; rfl, Evl.Ex.mut (eG.trans e2) hD, fun t u v hu hv => ?_⟩
    have eU : ∀ {u v}, R u v G2 → R u v (upd G2 Dl (.lst (acc ++ [y]))) := fun {u v} r => mU _ _ _ _ _ _ (e2 _ _ hd) r
    by_cases ht : t < acc.length
    · rw [List.getElem?_append_left ht] at hv
      exact eU (mR _ _ _ _ e2 (hR t u v hu hv))
    · have et : t = acc.length := by
        have z := (List.getElem?_eq_some_iff.mp hv).1
        rw [List.length_append] at z
        simp only [List.length_cons, List.length_nil] at z
        omega
      subst et
      rw [List.getElem?_append_right (Nat.le_refl _), Nat.sub_self] at hv
      obtain rfl := Option.some.inj hv
      rw [hl, hi] at hu
      obtain rfl := Option.some.inj hu
      exact eU ry
  have fin : ∀ (Dl : Addr) (G : Hp), H1 Dl = none → Pv Dl xs.length G → Q (.ref Dl) G := fun Dl G hD hp => by
    obtain ⟨acc, hd, hl, eG, hR⟩ := hp
    exact q Dl acc G (Evl.fresh_back e1 hD) (e1.trans eG) hd ⟨hl, hR⟩
  have start : ∀ Dl : Addr, H1 Dl = none → Pv Dl 0 (upd H1 Dl (.lst [])) := fun Dl hD => ⟨[], upd_same, rfl, Evl.Ex.new hD, fun t u v _ hv => by simp at hv⟩
  rcases hx with hx | hx
  · exact .inl ⟨⟨xs, Evl.ex_l (e.trans e1) hx⟩, fun Dl hD => lc_list (xs := xs) (Pv Dl) (start Dl hD) (fun i G _ p => by
      obtain ⟨acc, _, _, eG, _⟩ := p
      exact Evl.ex_l ((e.trans e1).trans eG) hx) (fun i x G hi p => turn Dl i x G hD hi p) (fun G p => fin Dl G hD p)⟩
  · exact .inr ⟨⟨xs, Evl.ex_t (e.trans e1) hx⟩, fun Dl hD => lc_tup (xs := xs) (Pv Dl) (start Dl hD) (fun i G _ p => by
      obtain ⟨acc, _, _, eG, _⟩ := p
      exact Evl.ex_t ((e.trans e1).trans eG) hx) (fun i x G hi p => turn Dl i x G hD hi p) (fun G p => fin Dl G hD p)⟩⟩
theorem s_retTup {te : TE} {σ : L2.St} {H : Hp} {D : Ends} {W : List V → Hp → Prop} (h : ∀ Q : VK, (∀ p ys H2, H p = none → Evl.Ex H H2 → H2 p = some (.lst ys) → W ys H2 → Q (.ref p) H2) → te σ H Q) (k : ∀ p ys H2 l, Evl.Ex H H2 → H2 p = some (.lst ys) → W ys H2 → H2 l = none → D.rt (.ref l) (upd H2 l (.tup ys))) :
    tRet (tCB (fun xs H Q => ∃ p ys, xs = [.ref p] ∧ ((SqL K H p ys ∧ ∀ l, H l = none → Q (.ref l) (upd H l (.tup ys))) ∨ (SqT K H p ys ∧ Q (.ref p) H))) (tCons te tNil)) D σ H :=
  h _ fun p ys H2 _ e hp hw => ⟨p, ys, rfl, .inl ⟨Evl.sq_of hp, fun l nl => k p ys H2 l e hp hw nl⟩⟩
theorem ok_fixS {f : Addr} {fd : FuncData} {k : Nat} {sp : Sp} {Pin : V → Hp → Prop} {R : V → V → Hp → Prop} (T : Tx mg) (F : Fun K "fixed" "fixed" sFixed f fd) (D : Df P w K mg base (k + 1) "fixed" ["value"] sp f fd) (mP : ∀ x H H', Evl.Ex H H' → Pin x H → Pin x H')
    (mR : ∀ x y H H', Evl.Ex H H' → R x y H → R x y H') (mU : ∀ x y (H : Hp) (D : Addr) zs o, H D = some (.lst zs) → R x y H → R x y (upd H D o)) (hin : ∀ x H, Pin x H → ∀ Q : VK, (∀ y H2, Evl.Ex H H2 → R x y H2 → Q y H2) → ∀ E : XK, sp [x] H Q E) :
    FnOk P w K mg base CX0 (k + 2) f fd ["value"] (spFixS Pin R) := by
  refine F.ok sc_fx (fun vs H Q E h => ?_) (fun cdv A outer s H vs Q E hr h => ?_)
  · obtain ⟨a, xs, rfl, _⟩ := h
    rfl
  · obtain ⟨a, xs, rfl, hx, hl, hP, q⟩ := h
    have nd := sc_fx.nd
    refine ⟨_, pss_cons (ps_if (pt_val (pe_callB call_isiT (by rfl) T.isi (by decide +kernel) (pa_cons (pv 0) (pa_cons (pe_tup (pa_cons (pe_bltn (v := .ty "list") (by rfl) T.list (by decide +kernel) rfl) (pa_cons (pe_bltn (v := .ty "tuple") (by rfl) T.tuple (by decide +kernel) rfl) pa_nil))) pa_nil))))
        (pss_one (ps_ret (pe_callTy call_tuple_of (by rfl) T.tuple (by decide +kernel) (pa_cons (pe_lc (own := [("part", 1)]) (g := gName 1) (tt := tYes) rfl nd (pi_seq (pv 0))
          (blkOk_by (N := ["value", "part"]) (sc := defScope sFixed) (by decide +kernel)) (fun _ _ _ _ _ => pg_name (i := 1) nd rfl (Or.inl rfl)) (fun _ _ _ _ _ => pts_nil) (fun _ _ _ _ _ => pe_df D hr (pa_cons (pv 1) pa_nil))) pa_nil)))) pss_nil)
      (pss_one (ps_ret (pv 0))), ?_⟩
    -- it is a list or a tuple
    refine Evl.q_when (b := true) (Evl.et_B (ev_seqL hx)) (fun _ H1 e1 => ?_) (fun z => nomatch z)
    refine s_retTup (W := fun ys H2 => Each2 (fun x y => R x y H2) xs ys) (en_lcS (K := K) (H := H1) (a := a) (xs := xs) (j := 1) (vs := [1]) mR mU (Evl.ev_var rfl) (hx.ex e1).x (by omega) (fun _ => rfl) (fun i x H2 e2 hi => ?_) H1 (Evl.Ex.refl H1)) fun p ys H2 l e2 hp hR nl => ?_
    · intro H3 e3 Q' q'
      exact ⟨x, rfl, hin x H3 (mP _ _ _ (e1.trans (e2.trans e3)) (hP x (List.mem_of_getElem? hi))) _ (fun y H4 e4 r => q' y H4 e4 r) _⟩
    · have el := Evl.Ex.new (o := .tup ys) nl
      exact q l ys _ (Evl.fresh_back (e1.trans e2) nl) ((e1.trans e2).trans el) upd_same ⟨hR.1, fun i x y h1 h2 => mR _ _ _ _ el (hR.2 i x y h1 h2)⟩
end
end K01
namespace K01
open PySem PySem.Spec PyProof.Rows L2 BW
/-- the first that stood ahead -/
def firstTk : List Tk → List Tk → Option Tk
  | _, [] => none
  | sn, t :: r => if t ∈ sn then some t else firstTk (t :: sn) r
def TksAt (K : PySem.W.Frag) (H : Hp) (xs : List V) (ts : List Tk) : Prop := xs.length = ts.length ∧ ∀ (i : Nat) x t, xs[i]? = some x → ts[i]? = some t → IsTk K H x t
def OutTk (K : PySem.W.Frag) (o : Option Tk) (v : V) (H : Hp) : Prop := match o with
  | none => v = .non
  | some t => IsTk K H v t
/-- keys alone, or tuples of few kinds -/
def SortTk (ts : List Tk) : Prop := (∃ ks : List Key, ts = ks.map .k) ∨ ∃ (sss pool : List (List Str)), ts = sss.map .t ∧ pool.length ≤ 4 ∧ pool.Nodup ∧ ∀ ss ∈ sss, ss ∈ pool
def spFirst (K : PySem.W.Frag) : Sp := fun vs H Q _ => ∃ (a : Addr) (xs : List V) (ts : List Tk), vs = [.ref a] ∧ SqP H a xs ∧ xs.length ≤ 20 ∧ TksAt K H xs ts ∧ (∀ t ∈ ts, tkOk t) ∧ SortTk ts ∧ ∀ v H', Evl.Ex H H' → OutTk K (firstTk [] ts) v H' → Q v H'
def PinK : V → Hp → Prop := fun x _ => ∃ key, x = kV key ∧ tkOk (.k key)
def ResK : V → V → Hp → Prop := fun x y _ => y = x
def PinT : V → Hp → Prop := fun x H => ∃ (b : Addr) (ss : List Str), x = .ref b ∧ H b = some (.tup (ss.map V.str)) ∧ ss.length ≤ 20 ∧ ∀ z ∈ ss, z.length ≤ 1000 ∧ PySem.PyData.strOk z = true
def ResT : V → V → Hp → Prop := fun x y H => ∃ (b c : Addr) (ss : List Str), x = .ref b ∧ H b = some (.tup (ss.map V.str)) ∧ y = .ref c ∧ H c = some (.tup (ss.map V.str))
theorem sub_pool : ∀ {l pool : List (List Str)}, l.Nodup → (∀ x ∈ l, x ∈ pool) → l.length ≤ pool.length
  | [], _, _, _ => Nat.zero_le _
  | x :: l, pool, hn, hs => by
    obtain ⟨h1, h2⟩ := List.nodup_cons.mp hn
    have hx := hs x (List.mem_cons_self ..)
    have ih := sub_pool (pool := pool.erase x) h2 fun y hy => (List.mem_erase_of_ne (fun e => h1 (by rw [← e]; exact hy))).2 (hs y (List.mem_cons_of_mem _ hy))
    have e := List.length_erase_of_mem hx
    have e2 : 0 < pool.length := List.length_pos_of_mem hx
    rw [List.length_cons]
    omega
theorem drop_at {α : Type} {l : List α} {i : Nat} {x : α} (h : l[i]? = some x) : l.drop i = x :: l.drop (i + 1) := by
  obtain ⟨hi, e⟩ := List.getElem?_eq_some_iff.mp h
  rw [List.drop_eq_getElem_cons hi, e]
section
variable {P : Program} {w : World} {K : PySem.W.Frag} {mg : Str → Option Value} {base : Heap}
theorem sc_ft : FnScope ["values", "seen", "value"] ["values"] (defScope sFirst) := ⟨rfl, rfl, rfl, by decide +kernel, rfl, by decide +kernel, by decide +kernel⟩
/-- the def, of keys -/
theorem ok_first {f fX : Addr} {fd fdX : FuncData} {k : Nat} (ms : mg "set" = none) (D1 : Df P w K mg base (k + 1) "fixed" ["value"] (spFixS PinK ResK) fX fdX) (D2 : Df P w K mg base (k + 1) "fixed" ["value"] (spFixS PinT ResT) fX fdX)
    (F : Fun K "first_twice" "first_twice" sFirst f fd) : FnOk P w K mg base CX0 (k + 2) f fd ["values"] (spFirst K) := by
  refine F.ok sc_ft (fun vs H Q E h => ?_) (fun cdv A outer s H vs Q E hr h => ?_)
  · obtain ⟨a, xs, ts, rfl, _⟩ := h
    rfl
  · obtain ⟨a, xs, ts, rfl, hx, hl, hT, hok, hS, q⟩ := h
    have nd := sc_ft.nd
    rcases hS with ⟨ks, rfl⟩ | ⟨sss, pool, rfl, hp4, hpn, hpool⟩
    · -- ints and texts
      refine ⟨_, pss_cons (ps_set (i := 1) nd rfl (.inl rfl) (pe_callTy0 cr_set0K (by rfl) ms (by decide +kernel)))
        (pss_cons (ps_for PassesOwn.never rfl (pi_tup (pe_df D1 hr (pa_cons (pv 0) pa_nil))) (pg_name (i := 2) nd rfl (.inl rfl))
          (pss_cons (ps_if (pt_cmpR or_sinK (pv 2) (pv 1) (by rfl)) (pss_one (ps_ret (pv 2))) pss_nil) (pss_one (ps_expr (pe_saddK (pv 1) (pa_cons (pv 2) pa_nil))))))
        (pss_one (ps_ret pe_non))), ?_⟩
      have hxs : xs = ks.map kV := by
        refine List.ext_getElem? fun i => ?_
        cases hk : ks[i]? with
        | none =>
          have z : ¬ i < xs.length := fun hlt => by
            rw [hT.1, List.length_map] at hlt
            rw [List.getElem?_eq_getElem hlt] at hk
            cases hk
          rw [List.getElem?_map, hk, List.getElem?_eq_none (by omega)]
          rfl
        | some key =>
          have hlt : i < xs.length := by
            rw [hT.1, List.length_map]
            exact (List.getElem?_eq_some_iff.mp hk).1
          have e := hT.2 i _ (.k key) (List.getElem?_eq_getElem hlt) (by rw [List.getElem?_map, hk]; rfl)
          rw [List.getElem?_eq_getElem hlt, List.getElem?_map, hk, show xs[i] = kV key from e]
          rfl
      refine ⟨rfl, fun sa nsa => ?_⟩
      have e1 := Evl.Ex.new (o := SetK P w sa (fun _ => false) 0) nsa
      refine ⟨.ref a, rfl, a, xs, rfl, hx.ex e1, hl, fun x hm => ?_, fun p ys H2 np e2 hp hR => ?_⟩
      · rw [hxs] at hm
        obtain ⟨key, hk, rfl⟩ := List.mem_map.mp hm
        exact ⟨key, rfl, hok _ (List.mem_map.mpr ⟨key, hk, rfl⟩)⟩
      have hys : ys = ks.map kV := by
        rw [← hxs]
        refine List.ext_getElem? fun i => ?_
        by_cases hlt : i < xs.length
        · have h2 : i < ys.length := by rw [hR.1]; exact hlt
          have e := hR.2 i _ _ (List.getElem?_eq_getElem hlt) (List.getElem?_eq_getElem h2)
          rw [List.getElem?_eq_getElem hlt, List.getElem?_eq_getElem h2]
          exact congrArg some e
        · have h2 := hR.1
          rw [List.getElem?_eq_none (by omega : ys.length ≤ i), List.getElem?_eq_none (by omega : xs.length ≤ i)]
      subst hys
      have hs2 : H2 sa = some (SetK P w sa (fun _ => false) 0) := e2 _ _ upd_same
      have nps : p ≠ sa := fun z => by
        rw [z, upd_same] at np
        cases np
      have kb : ks.length ≤ 20 := by
        rw [hxs, List.length_map] at hl
        exact hl
      refine ⟨p, rfl, ⟨_, Evl.st_of hp⟩, for_tup (xs := ks.map kV) (fun i σ G => ∃ (sn : List Tk) (S : Key → Bool) (n : Nat) (o2 : Option V), σ = [some (.ref a), some (.ref sa), o2] ∧ firstTk [] (ks.map .k) = firstTk sn ((ks.map .k).drop i) ∧ (∀ j : Key, S j = decide (Tk.k j ∈ sn)) ∧ n ≤ i ∧ G sa = some (SetK P w sa S n) ∧ Kp sa H2 G)
        ⟨[], fun _ => false, 0, none, rfl, rfl, fun _ => rfl, Nat.le_refl _, hs2, Kp.refl _ _⟩ (fun i σ G _ hi => ?_) (fun i x σ G hi hv => ?_) (fun σ G hv => ?_)⟩
      · obtain ⟨_, _, _, _, _, _, _, _, _, kk⟩ := hi
        exact Evl.st_of (kk _ _ nps hp)
      · obtain ⟨sn, S, n, o2, rfl, hf, hS, hn, hsa, kk⟩ := hv
        rw [List.getElem?_map] at hi
        cases hki : ks[i]? with
        | none =>
          rw [hki] at hi
          cases hi
        | some key =>
          rw [hki] at hi
          obtain rfl := Option.some.inj hi
          have hlt := (List.getElem?_eq_some_iff.mp hki).1
          have hd : (ks.map Tk.k).drop i = Tk.k key :: (ks.map Tk.k).drop (i + 1) := drop_at (by rw [List.getElem?_map, hki]; rfl)
          rw [hd] at hf
          have toH : Evl.Ex H G := fun b o hb => kk b o (fun z => by rw [z, nsa] at hb; cases hb) (e2 _ _ (e1 _ _ hb))
          show tSeq _ _ _ _ _
          refine ⟨kV key, rfl, .ref sa, rfl, key, sa, S, n, rfl, rfl, hsa, _, rfl, ?_⟩
          by_cases hm : Tk.k key ∈ sn
          · have e : (if false = true then !S key else S key) = true := by
              rw [if_neg Bool.false_ne_true, hS, decide_eq_true hm]
            rw [e]
            refine iteT ⟨kV key, rfl, q _ G toH ?_⟩
            rw [hf]
            unfold firstTk
            rw [if_pos hm]
            exact rfl
          · have e : (if false = true then !S key else S key) = false := by
              rw [if_neg Bool.false_ne_true, hS, decide_eq_false hm]
            rw [e]
            refine iteF ⟨.ref sa, rfl, ⟨sa, S, n, rfl, hsa⟩, kV key, rfl, sa, key, S, n, rfl, rfl, hsa, ?_, Tk.k key :: sn, _, _, some (kV key), rfl, ?_, fun j => ?_, ?_, upd_same, kk.trans Kp.upd⟩
            · have : scanBound > 30 := by decide
              omega
            · rw [hf]
              conv => lhs; unfold firstTk
              rw [if_neg hm]
            · rw [hS]
              by_cases hj : j = key
              · subst hj
                simp
              · have : (Tk.k j ∈ Tk.k key :: sn) ↔ Tk.k j ∈ sn := by
                  rw [List.mem_cons]
                  exact ⟨fun h => h.elim (fun z => absurd (by injection z) hj) id, .inr⟩
                simp [hj, this]
            · split <;> omega
      · obtain ⟨sn, S, n, o2, rfl, hf, hS, hn, hsa, kk⟩ := hv
        have toH : Evl.Ex H G := fun b o hb => kk b o (fun z => by rw [z, nsa] at hb; cases hb) (e2 _ _ (e1 _ _ hb))
        refine q _ G toH ?_
        rw [hf, List.drop_eq_nil_of_le (by rw [List.length_map, List.length_map]; exact Nat.le_refl _)]
        exact rfl
    · -- tuples of texts
      refine ⟨_, pss_cons (ps_set (i := 1) nd rfl (.inl rfl) (pe_callTy0 cr_setTw0 (by rfl) ms (by decide +kernel)))
        (pss_cons (ps_for PassesOwn.never rfl (pi_tup (pe_df D2 hr (pa_cons (pv 0) pa_nil))) (pg_name (i := 2) nd rfl (.inl rfl))
          (pss_cons (ps_if (pt_cmpR (op_inTw hr.units) (pv 2) (pv 1) (by rfl)) (pss_one (ps_ret (pv 2))) pss_nil) (pss_one (ps_expr (pe_addTw hr.units (pv 1) (pa_cons (pv 2) pa_nil))))))
        (pss_one (ps_ret pe_non))), ?_⟩
      refine ⟨rfl, fun sa nsa => ?_⟩
      have e1 := Evl.Ex.new (o := SetTw P w sa []) nsa
      have at_ : ∀ {i : Nat} {x : V}, xs[i]? = some x → ∃ ss b, sss[i]? = some ss ∧ x = .ref b ∧ H b = some (.tup (ss.map V.str)) := fun {i x} hi => by
        have hlt : i < sss.length := by
          have z := (List.getElem?_eq_some_iff.mp hi).1
          have z2 := hT.1
          rw [List.length_map] at z2
          omega
        have e := hT.2 i x (.t sss[i]) hi (by rw [List.getElem?_map, List.getElem?_eq_getElem hlt]; rfl)
        obtain ⟨b, hb, hs⟩ := e
        exact ⟨_, b, List.getElem?_eq_getElem hlt, hb, hs⟩
      refine ⟨.ref a, rfl, a, xs, rfl, hx.ex e1, hl, fun x hm => ?_, fun p ys H2 np e2 hp hR => ?_⟩
      · obtain ⟨i, hi⟩ := List.getElem?_of_mem hm
        obtain ⟨ss, b, hss, rfl, hb⟩ := at_ hi
        have ok := hok (.t ss) (List.mem_map.mpr ⟨ss, List.mem_of_getElem? hss, rfl⟩)
        exact ⟨b, ss, rfl, e1 _ _ hb, ok.1, ok.2⟩
      have hs2 : H2 sa = some (SetTw P w sa []) := e2 _ _ upd_same
      have nps : p ≠ sa := fun z => by
        rw [z, upd_same] at np
        cases np
      have e12 := e1.trans e2
      refine ⟨p, rfl, ⟨_, Evl.st_of hp⟩, for_tup (xs := ys) (fun i σ G => ∃ (sn : List Tk) (L : List (Addr × List Str)) (o2 : Option V), σ = [some (.ref a), some (.ref sa), o2] ∧ firstTk [] (sss.map .t) = firstTk sn ((sss.map .t).drop i) ∧ (∀ ss, ss ∈ L.map (·.2) ↔ Tk.t ss ∈ sn) ∧ (∀ q ∈ L, G q.1 = some (.tup (q.2.map V.str)) ∧ q.2 ∈ pool) ∧ (L.map (·.2)).Nodup ∧ G sa = some (SetTw P w sa L) ∧ Kp sa H2 G)
        ⟨[], [], none, rfl, rfl, fun _ => ⟨(fun h => nomatch h), (fun h => nomatch h)⟩, (fun _ h => nomatch h), List.nodup_nil, hs2, Kp.refl _ _⟩ (fun i σ G _ hi => ?_) (fun i x σ G hi hv => ?_) (fun σ G hv => ?_)⟩
      · obtain ⟨_, _, _, _, _, _, _, _, _, kk⟩ := hi
        exact Evl.st_of (kk _ _ nps hp)
      · obtain ⟨sn, L, o2, rfl, hf, hS, hL, hnd, hsa, kk⟩ := hv
        have hlt : i < xs.length := by
          rw [← hR.1]
          exact (List.getElem?_eq_some_iff.mp hi).1
        obtain ⟨ss, b0, hss, hx0, hb0⟩ := at_ (List.getElem?_eq_getElem hlt)
        obtain ⟨b, c, ss', hx1, hb1, rfl, hc⟩ := hR.2 i _ _ (List.getElem?_eq_getElem hlt) hi
        have ebb : b = b0 := by
          rw [hx0] at hx1
          injection hx1 with z
          exact z.symm
        have ess : ss' = ss := by
          rw [ebb, e12 _ _ hb0] at hb1
          have z : ss.map V.str = ss'.map V.str := by
            injection hb1 with z
            injection z
          have inj : ∀ {l m : List Str}, l.map V.str = m.map V.str → l = m := fun {l m} h => by
            induction l generalizing m with
            | nil =>
              cases m with
              | nil => rfl
              | cons _ _ => cases h
            | cons x l ih =>
              cases m with
              | nil => cases h
              | cons y m =>
                rw [List.map_cons, List.map_cons] at h
                injection h with h1 h2
                injection h1 with h1
                rw [h1, ih h2]
          exact (inj z).symm
        subst ess
        have hd : (sss.map Tk.t).drop i = Tk.t ss' :: (sss.map Tk.t).drop (i + 1) := drop_at (by rw [List.getElem?_map, hss]; rfl)
        rw [hd] at hf
        have toH : Evl.Ex H G := fun b o hb => kk b o (fun z => by rw [z, nsa] at hb; cases hb) (e12 _ _ hb)
        have ncs : c ≠ sa := fun z => by
          rw [z, hs2] at hc
          unfold SetTw at hc
          cases hc
        have hcG := kk _ _ ncs hc
        have inPool : ss' ∈ pool := hpool _ (List.mem_of_getElem? hss)
        show tSeq _ _ _ _ _
        refine ⟨.ref c, rfl, .ref sa, rfl, c, sa, ss', L, rfl, rfl, hsa, Evl.st_of hcG, fun q hq => Evl.st_of (hL q hq).1, _, rfl, ?_⟩
        by_cases hm : Tk.t ss' ∈ sn
        · rw [decide_eq_true ((hS ss').mpr hm)]
          refine iteT ⟨.ref c, rfl, q _ G toH ?_⟩
          rw [hf]
          unfold firstTk
          rw [if_pos hm]
          exact ⟨c, rfl, hcG⟩
        · have hm' : ss' ∉ L.map (·.2) := fun h => hm ((hS ss').mp h)
          rw [decide_eq_false hm']
          refine iteF ⟨.ref sa, rfl, ⟨sa, L, rfl, hsa⟩, .ref c, rfl, sa, c, ss', L, rfl, rfl, hsa, Evl.st_of hcG, fun q hq => Evl.st_of (hL q hq).1, fun _ => ?_, fun L' h1 h2 h3 => ?_⟩
          · have z := sub_pool (l := ss' :: L.map (·.2)) (pool := pool) (List.nodup_cons.mpr ⟨hm', hnd⟩) fun x hx => by
              rcases List.mem_cons.mp hx with rfl | hx
              · exact inPool
              · obtain ⟨q, hq, rfl⟩ := List.mem_map.mp hx
                exact (hL q hq).2
            rw [List.length_cons, List.length_map] at z
            omega
          · refine ⟨Tk.t ss' :: sn, L', some (.ref c), rfl, ?_, fun j => ?_, fun q hq => ?_, h3, upd_same, kk.trans Kp.upd⟩
            · rw [hf]
              conv => lhs; unfold firstTk
              rw [if_neg hm]
            · rw [h2, hS, List.mem_cons]
              exact ⟨fun h => h.elim .inr (fun e => .inl (by rw [e])), fun h => h.elim (fun e => .inr (by injection e)) .inl⟩
            · have ne : ∀ {u : Addr} {zs : List V}, G u = some (.tup zs) → u ≠ sa := fun {u zs} hu z => by
                rw [z, hsa] at hu
                unfold SetTw at hu
                cases hu
              rcases h1 q hq with hq | rfl
              · exact ⟨by rw [upd_ne (ne (hL q hq).1)]; exact (hL q hq).1, (hL q hq).2⟩
              · exact ⟨by rw [upd_ne (ne hcG)]; exact hcG, inPool⟩
      · obtain ⟨sn, L, o2, rfl, hf, hS, hL, hnd, hsa, kk⟩ := hv
        have toH : Evl.Ex H G := fun b o hb => kk b o (fun z => by rw [z, nsa] at hb; cases hb) (e12 _ _ hb)
        refine q _ G toH ?_
        have z : ys.length = sss.length := by
          have z1 := hR.1
          have z2 := hT.1
          rw [List.length_map] at z2
          omega
        rw [hf, List.drop_eq_nil_of_le (by rw [List.length_map, z]; exact Nat.le_refl _)]
        exact rfl
end
end K01
namespace K01
open PySem PySem.Spec PyProof.Rows L2 BW
abbrev sLawNames : Stmt := topS 24
def ElmW : Wd := fun v G => Elm G v
theorem mon_elm : Mon ElmW := fun _ _ _ e h => h.mono e
def pool : List Str := ["a", "b", "c", "lake", "z9", "town"]
def PoolV : V → Prop := fun x => ∃ z, x = .str z ∧ z ∈ pool
theorem pool_ok : ∀ z ∈ pool, PySem.PyData.strOk z = true ∧ z.length ≤ 4 := by decide +kernel
theorem pool_elm {x : V} (h : PoolV x) (G : Hp) : Elm G x := by
  obtain ⟨z, rfl, hz⟩ := h
  exact .str (Nat.le_trans (pool_ok z hz).2 (by decide)) (pool_ok z hz).1
theorem pool_strs : ∀ {xs : List V}, (∀ x ∈ xs, PoolV x) → ∃ ys : List Str, xs = ys.map V.str ∧ ∀ y ∈ ys, y ∈ pool
  | [], _ => ⟨[], rfl, fun _ h => nomatch h⟩
  | x :: xs, h => by
    obtain ⟨z, rfl, hz⟩ := h x (List.mem_cons_self ..)
    obtain ⟨ys, e, k⟩ := pool_strs fun y hy => h y (List.mem_cons_of_mem _ hy)
    refine ⟨z :: ys, by rw [e]; rfl, fun d hd => ?_⟩
    rcases List.mem_cons.mp hd with rfl | hd
    · exact hz
    · exact k d hd
theorem pool_flat {xs : List V} (h : ∀ x ∈ xs, PoolV x) : xs.all flatV = true := by
  rw [List.all_eq_true]
  intro x hx
  obtain ⟨z, rfl, _⟩ := h x hx
  rfl
def spNames : Sp := fun vs H Q _ => ∃ (p L : Addr) (n : Nat), vs = [.ref p] ∧ PenL H p L n ∧ n + 20 ≤ 100000 ∧ ∀ a xs H', a ≠ p → H' a = some (.lst xs) → xs.length ≤ 20 → (∀ x ∈ xs, Elm (hide p H') x) → Kp p H H' → PenL H' p L (n + 20) → Q (.ref a) H'
section
variable {P : Program} {w : World} {K : PySem.W.Frag} {mg : Str → Option Value} {base : Heap}
/-- sorted(..) of names, a new list -/
theorem en_sort {te : TE} {σ : L2.St} {H : Hp} {a : Addr} {xs : List V} (h : Evl.Ev te σ H (.ref a)) (ha : H a = some (.lst xs)) (hx : ∀ x ∈ xs, PoolV x) (hl : xs.length ≤ 5) :
    Evn (tCB (rSortedS K) (tCons te tNil)) σ H (fun ys => ys.length ≤ 5 ∧ ∀ y ∈ ys, PoolV y) := fun H1 e Q q => h H1 e _ fun H2 e2 => by
  obtain ⟨ss, rfl, hs⟩ := pool_strs hx
  rw [List.length_map] at hl
  refine ⟨a, ss, rfl, Evl.sq_of (e2 _ _ (e _ _ ha)), by omega, fun ys b pm _ nb => ?_⟩
  refine q b (ys.map V.str) _ (Evl.fresh_back e2 nb) (e2.trans (Evl.Ex.new nb)) upd_same ⟨?_, fun y hy => ?_⟩
  · rw [List.length_map, pm.length_eq]
    exact hl
  · obtain ⟨z, hz, rfl⟩ := List.mem_map.mp hy
    exact ⟨z, rfl, hs z (pm.mem_iff.mp hz)⟩
theorem sc_ns : FnScope ["_law_store_here", "_law_found", "_law_at", "_law_way", "_law_name_here", "_law_odd"] ["_law_store_here"] (defScope sLawNames) := ⟨rfl, rfl, rfl, by decide +kernel, rfl, by decide +kernel, by decide +kernel⟩
theorem ok_names {f fN : Addr} {fd fdN : FuncData} {k : Nat} (T : Tx mg) (me : mg "enumerate" = none) (mso : mg "sorted" = none) (N : Df P w K mg base (k + 1) "_law_next" ["_law_store_here", "_law_many"] spNext fN fdN) (F : Fun K "_law_names" "_law_names" sLawNames f fd) :
    FnOk P w K mg base CX0 (k + 2) f fd ["_law_store_here"] spNames := by
  refine F.ok sc_ns (fun vs H Q E h => ?_) (fun cdv A outer s H vs Q E hr h => ?_)
  · obtain ⟨p, L, n, rfl, _⟩ := h
    rfl
  · obtain ⟨p, L, n, rfl, hP, hn, q⟩ := h
    have nd := sc_ns.nd
    refine ⟨_, pss_cons (ps_set (i := 1) nd rfl (.inr rfl) (pe_lc (own := [("_law_at", 2)]) (g := gName 2) (tt := tYes) rfl nd (pi_range1 rfl T.rng (pa_cons (pe_df N hr (pa_cons (pv 0) (pa_cons pe_int pa_nil))) pa_nil))
          (blkOk_by (N := ["_law_store_here", "_law_found", "_law_at", "_law_way", "_law_name_here", "_law_odd"]) (sc := defScope sLawNames) (by decide +kernel)) (fun _ _ _ _ _ => pg_name (i := 2) nd rfl (Or.inl rfl)) (fun _ _ _ _ _ => pts_nil)
          (fun _ _ _ _ _ => pe_ix (show IxR _ (rIxL K) from ix_list) (pe_lst (pa_cons pe_str (pa_cons pe_str (pa_cons pe_str (pa_cons pe_str (pa_cons pe_str (pa_cons pe_str (pa_cons pe_str pa_nil)))))))) (pe_df N hr (pa_cons (pv 0) (pa_cons pe_int pa_nil))) (fun _ _ => rfl))))
      (pss_cons (ps_set (i := 3) nd rfl (.inl rfl) (pe_df N hr (pa_cons (pv 0) (pa_cons pe_int pa_nil))))
      (C8.pss_cut (ps_if (pt_cmpR op_lt (pv 3) pe_int (nomark _)) (pss_one (ps_set (i := 1) nd rfl (.inr rfl) (pe_lc (own := [("_law_at", 2), ("_law_name_here", 4)]) (g := gTup K 2 (gCons (gName 2) (gCons (gName 4) gNil))) rfl nd
          (pi_enum (by rfl) me (pa_cons (pe_callB cr_sortedS (by rfl) mso (by decide +kernel) (pa_cons (pv 1) pa_nil)) pa_nil))
          (blkOk_by (N := ["_law_store_here", "_law_found", "_law_at", "_law_way", "_law_name_here", "_law_odd"]) (sc := defScope sLawNames) (by decide +kernel)) (fun _ _ _ _ _ => pg_tup rfl (pgs_cons (pg_name (i := 2) nd rfl (Or.inl rfl)) (pgs_cons (pg_name (i := 4) nd rfl (Or.inl rfl)) pgs_nil)))
          (fun _ _ _ _ _ => pts_one (pt_cmpR (show OpR _ _ (rIn K true) from op_notIn_seq) (pv 4) (pe_slice (show SlR _ (rSlL K) from sl_list) (pe_callB (show CallR _ _ (rSortedS K) from cr_sortedS) (by rfl) mso (by decide +kernel) (pa_cons (pv 1) pa_nil)) po_none (po_some (pv 2))) (by rfl)))
          (fun _ _ _ _ _ => pv 4)))) pss_nil)
      (C8.pss_cut (ps_if (pt_cmpR op_in_seq (pv 3) (pe_tup (pa_cons pe_int (pa_cons pe_int pa_nil))) (by rfl))
        (pss_cons (ps_set (i := 2) nd rfl (.inl rfl) (pe_df N hr (pa_cons (pv 0) (pa_cons (pe_op op_add (pe_callB call_len_seq (by rfl) T.len PySem.boot_len (pa_cons (pv 1) pa_nil)) pe_int) pa_nil))))
        (pss_cons (ps_set (i := 5) nd rfl (.inl rfl) (pe_ix ix_list (pe_lst (pa_cons pe_non (pa_cons pe_int (pa_cons pe_str (pa_cons pe_str (pa_cons pe_bl (pa_cons (pe_lst (pa_cons pe_str pa_nil)) (pa_cons pe_str (pa_cons pe_str pa_nil))))))))) (pe_df N hr (pa_cons (pv 0) (pa_cons pe_int pa_nil))) (fun _ _ => rfl)))
        (pss_one (ps_set (i := 1) nd rfl (.inr rfl) (pe_op op_cat (pe_op op_cat (pe_slice sl_list (pv 1) po_none (po_some (pv 2))) (pe_lst (pa_cons (pv 5) pa_nil))) (pe_slice sl_list (pv 1) (po_some (pv 2)) po_none)))))) pss_nil)
      (pss_one (ps_ret (pv 1)))))), ?_⟩
    have cS : ∀ {σ : L2.St} {H : Hp} (z : Str), z ∈ pool → Evd p L (tC (.str z)) σ H 0 (fun v _ => PoolV v) := fun z h1 => ed_c fun _ => ⟨_, rfl, h1⟩
    have mS : Mon (fun v _ => PoolV v) := fun _ _ _ _ h => h
    -- the names
    refine q_asgD (ed_lcR (M := 5) (m := 1) (d := 1) (Pe := PoolV) (by decide) (Evd.imp (ed_nextC (M := 6) rfl (by decide) (by decide)) fun v G h => by
        obtain ⟨r, e, r0, r1⟩ := h
        exact ⟨r, e, r0, by omega⟩) (fun _ => rfl)
      (fun x => ed_pick (N := 7) (m := 0) (m' := 1) mS (by decide) (eda_cons mS (cS _ (by decide)) (eda_cons mS (cS _ (by decide)) (eda_cons mS (cS _ (by decide)) (eda_cons mS (cS _ (by decide)) (eda_cons mS (cS _ (by decide)) (eda_cons mS (cS _ (by decide)) (eda_cons mS (cS _ (by decide)) eda_nil)))))))
        (ed_nextC rfl (by decide) (by decide)))) hP (by omega) fun v H1 k1 p1 hv => ?_
    obtain ⟨a1, xs1, rfl, ha1, hl1, hx1⟩ := hv
    have na1 := hide_ne ha1
    -- which way
    refine q_asgD (ed_nextC (M := 6) rfl (by decide) (by decide)) p1 (by omega) fun v H2 k2 p2 hv => ?_
    obtain ⟨way, rfl, w0, w1⟩ := hv
    have ha2 := k2 _ _ na1 (hide_sub _ _ _ _ ha1)
    -- each once
    refine ⟨fun σ G => ∃ a xs, σ = [some (.ref p), some (.ref a), none, some (.int way), none, none] ∧ a ≠ p ∧ G a = some (.lst xs) ∧ xs.length ≤ 5 ∧ (∀ x ∈ xs, PoolV x) ∧ Kp p H G ∧ PenL G p L (n + 7), ?_, ?_⟩
    · refine Evl.s_when (b := decide (way < 4)) (Evl.et_test (Evl.ev_op (Evl.ev_var rfl) Evl.ev_c Evl.rv_I0)) (fun _ G e => ?_) (fun _ G e => ?_)
      · have hG : G a1 = some (.lst xs1) := e _ _ ha2
        refine s_asgN (en_lcE (K := K) (M := 5) (i := 2) (j := 4) (vs := [2, 4]) (fun _ t acc => acc.length ≤ t ∧ ∀ x ∈ acc, PoolV x) (en_sort (Evl.ev_var rfl) hG hx1 hl1) (fun _ h => h.1) (by decide) (by decide) (fun _ _ => rfl) (fun _ _ => rfl) (fun _ _ => ⟨Nat.le_refl _, fun _ h => nomatch h⟩)
          (fun xs px t x acc hx hJ G1 e1 Q q => ?_) (fun _ _ _ h => h.1)) fun a xs G2 na e2 ha hp => ?_
        · have px' : PoolV x := px.2 x (List.mem_of_getElem? hx)
          refine ⟨x, rfl, ?_⟩
          refine en_sort (K := K) (H := G1) (Evl.ev_var rfl) (e1 _ _ hG) hx1 hl1 G1 (Evl.Ex.refl G1) _ fun b ys G3 nb e3 hb hy => ?_
          refine ⟨.int (t : Int), rfl, (t : Int), rfl, b, ys, rfl, Evl.sq_of hb, fun c nc => ?_⟩
          have pc : ∀ z ∈ cutV ys none (some (t : Int)), PoolV z := fun z hz => hy.2 z (cutV_mem hz)
          refine ⟨c, _, rfl, .inl (.inl (.inl upd_same)), ?_, pool_flat pc, _, rfl, ?_⟩
          · obtain ⟨z, rfl, _⟩ := px'
            rfl
          · have key : ∀ bb : Bool, (if bb = true then acc ++ [x] else acc).length ≤ t + 1 ∧ ∀ z ∈ (if bb = true then acc ++ [x] else acc), PoolV z := fun bb => by
              cases bb with
              | true =>
                rw [if_pos rfl]
                refine ⟨by rw [List.length_append]; have := hJ.1; simp only [List.length_cons, List.length_nil]; omega, fun z hz => ?_⟩
                rcases List.mem_append.mp hz with hz | hz
                · exact hJ.2 z hz
                · rw [List.mem_singleton.mp hz]
                  exact px'
              | false =>
                rw [if_neg Bool.false_ne_true]
                exact ⟨Nat.le_succ_of_le hJ.1, hJ.2⟩
            exact q _ _ (e3.trans (Evl.Ex.new nc)) (key _)
        · obtain ⟨ys, py, hJ⟩ := hp
          have pe := p2.same (e.trans e2)
          exact ⟨a, xs, rfl, ((p2.same e).ne na).1, ha, Nat.le_trans hJ.1 py.1, hJ.2, (k1.trans k2).trans (Same.kp (e.trans e2)), pe.up (by omega)⟩
      · exact ⟨a1, xs1, rfl, na1, e _ _ ha2, hl1, hx1, (k1.trans k2).trans (Same.kp e), (p2.same e).up (by omega)⟩
    rintro σ H3 ⟨a, xs, rfl, nap, ha, hl, hx, k3, p3⟩
    -- an odd one
    refine ⟨fun σ G => ∃ a xs o2 o5, σ = [some (.ref p), some (.ref a), o2, some (.int way), none, o5] ∧ a ≠ p ∧ G a = some (.lst xs) ∧ xs.length ≤ 20 ∧ (∀ x ∈ xs, Elm (hide p G) x) ∧ Kp p H G ∧ PenL G p L (n + 20), ?_, ?_⟩
    · refine Evl.s_when (b := inV (.int way) [.int 3, .int 5]) (Evl.et_test (Evl.ev_inU (Evl.ev_var rfl) (Evl.eu_tup (Evl.ea_cons Evl.ev_c (Evl.ea_cons Evl.ev_c Evl.ea_nil)) (by show 2 ≤ 100000; decide)) rfl rfl)) (fun _ G e => ?_) (fun _ G e => ?_)
      · have hG := e _ _ ha
        have pG := p3.same e
        have hlen : ∀ G1, Kp p G G1 → Evl.Ev (tOp (rI0 fun i j => .int (i + j)) (tCB (fun xs H Q => ∃ p ys, xs = [.ref p] ∧ (SqL K H p ys ∨ SqT K H p ys) ∧ Q (.int ys.length) H) (tCons (tVar 1) tNil)) (tC (.int 1))) [some (.ref p), some (.ref a), none, some (.int way), none, none] G1 (.int ((xs.length : Int) + 1)) := fun G1 k =>
          Evl.ev_op (ev_lenR (K := K) (Evl.ev_var rfl) (.inl (Evl.sq_of (k _ _ nap hG)))) Evl.ev_c Evl.rv_I0
        refine q_asgD (ed_next (m := 0) (M := 6) rfl (by decide) (ed_of hlen fun _ => ⟨_, rfl, by omega, by omega⟩)) pG (by omega) fun v G1 k1' p1' hv => ?_
        obtain ⟨at_, rfl, t0, t1⟩ := hv
        have cE : ∀ {σ : L2.St} {H : Hp} (v : V), (∀ G, Elm G v) → Evd p L (tC v) σ H 0 ElmW := fun v h => ed_c fun G => h G
        refine q_asgD (ed_pick (N := 8) (m := 0) (m' := 1) (P := ElmW) mon_elm (by decide) (eda_cons mon_elm (cE _ fun _ => .non) (eda_cons mon_elm (cE _ fun _ => .int _) (eda_cons mon_elm (cE _ fun _ => .str (by decide) (by decide +kernel)) (eda_cons mon_elm (cE _ fun _ => .str (by decide) (by decide +kernel)) (eda_cons mon_elm (cE _ fun _ => .bl _)
            (eda_cons mon_elm (Evd.imp (ed_lstP (N := 1) (P := fun v _ => v = .str "a") (fun _ _ _ _ h => h) (by decide) (eda_cons (fun _ _ _ _ h => h) (ed_c fun _ => rfl) eda_nil)) fun v G h => ?_) (eda_cons mon_elm (cE _ fun _ => .str (by decide) (by decide +kernel)) (eda_cons mon_elm (cE _ fun _ => .str (by decide) (by decide +kernel)) eda_nil))))))))
          (ed_nextC rfl (by decide) (by decide))) p1' (by omega) fun v G2 k2' p2' hv => ?_
        · obtain ⟨b, ys, rfl, hb, hlb, hyb⟩ := h
          obtain ⟨y, rfl⟩ : ∃ y, ys = [y] := List.length_eq_one_iff.mp hlb
          have hy := hyb y (List.mem_cons_self ..)
          subst hy
          exact .lst (zs := ["a"]) hb (by decide +kernel)
        have hG2 : G2 a = some (.lst xs) := (k1'.trans k2') _ _ nap hG
        refine ⟨.ref a, rfl, .int at_, rfl, at_, rfl, a, xs, rfl, Evl.sq_of hG2, fun b nb => ?_⟩
        have e1 : Evl.Ex G2 (upd G2 b (.lst (cutV xs none (some at_)))) := Evl.Ex.new nb
        refine ⟨v, rfl, (by show 1 ≤ sizeLine; decide), fun c nc => ?_⟩
        have e2 := Evl.Ex.new (o := .lst [v]) nc
        have hc1 := cutV_length xs none (some at_)
        have hc2 := cutV_length xs (some at_) none
        refine ⟨b, c, _, _, rfl, rfl, e2 _ _ upd_same, upd_same, ?_, fun d nd' => ?_⟩
        · exact Evl.sz_of (by simp only [List.length_cons, List.length_nil]; omega)
        have e3 := Evl.Ex.new (o := .lst (cutV xs none (some at_) ++ [v])) nd'
        refine ⟨.ref a, rfl, .int at_, rfl, at_, rfl, a, xs, rfl, Evl.sq_of (e3 _ _ (e2 _ _ (e1 _ _ hG2))), fun o no => ?_⟩
        have e4 := Evl.Ex.new (o := .lst (cutV xs (some at_) none)) no
        refine ⟨d, o, _, _, rfl, rfl, e4 _ _ upd_same, upd_same, ?_, fun r nr => ?_⟩
        · exact Evl.sz_of (by rw [List.length_append]; simp only [List.length_cons, List.length_nil]; omega)
        have e5 := Evl.Ex.new (o := .lst (cutV xs none (some at_) ++ [v] ++ cutV xs (some at_) none)) nr
        have e15 := (((e1.trans e2).trans e3).trans e4).trans e5
        have p4 := p2'.same (((e1.trans e2).trans e3).trans e4)
        refine ⟨r, _, some (.int at_), some v, rfl, (p4.ne nr).1, upd_same, ?_, fun x hx' => ?_, ((k3.trans (Same.kp e)).trans (k1'.trans k2')).trans (Same.kp e15), (p4.same e5).up (by omega)⟩
        · rw [List.length_append, List.length_append]
          simp only [List.length_cons, List.length_nil]
          omega
        · rcases List.mem_append.mp hx' with hx' | hx'
          · rcases List.mem_append.mp hx' with hx' | hx'
            · exact pool_elm (hx x (cutV_mem hx')) _
            · rw [List.mem_singleton.mp hx']
              exact Elm.mono (hide_kp (Same.kp e15)) hv
          · exact pool_elm (hx x (cutV_mem hx')) _
      · exact ⟨a, xs, none, none, rfl, nap, e _ _ ha, by omega, fun x h => pool_elm (hx x h) _, k3.trans (Same.kp e), (p3.same e).up (by omega)⟩
    rintro σ H4 ⟨a', xs', o2, o5, rfl, nap', ha', hl', hx', k4, p4⟩
    exact ⟨.ref a', rfl, q a' xs' H4 nap' ha' hl' hx' k4 p4⟩
end
end K01
namespace K01
open PySem PySem.Spec PyProof.Rows L2 BW
abbrev sLawValue : Stmt := topS 25
def SeenW : Wd := fun v G => ∃ o, Seen G v o ∧ okV v
theorem mon_seen : Mon SeenW := fun _ _ _ e ⟨o, h, k⟩ => ⟨o, h.mono e, k⟩
def NamesW : Wd := fun v G => ∃ a xs, v = .ref a ∧ G a = some (.lst xs) ∧ xs.length ≤ 20 ∧ ∀ x ∈ xs, Elm G x
def spValue : Sp := fun vs H Q _ => ∃ (p L : Addr) (n : Nat), vs = [.ref p] ∧ PenL H p L n ∧ n + 30 ≤ 100000 ∧ ∀ v H', SeenW v (hide p H') → Kp p H H' → PenL H' p L (n + 30) → Q v H'
section
variable {P : Program} {w : World} {K : PySem.W.Frag} {mg : Str → Option Value} {base : Heap}
variable {p L : Addr} {σ : L2.St} {H : Hp} {i : Nat}
theorem ed_names (hσ : σ[i]? = some (some (.ref p))) : Evd p L (tCall spNames [] E0 (tCons (tVar i) tNil)) σ H 20 NamesW := fun H1 k n pn hn Q q =>
  ⟨.ref p, hσ, p, L, n, rfl, pn, hn, fun a xs H2 na ha hl hx k2 p2 => q (.ref a) H2 k2 p2 ⟨a, xs, rfl, hide_at na ha, hl, hx⟩⟩
theorem ed_name (hσ : σ[i]? = some (some (.ref p))) : Evd p L (tCall spName [] E0 (tCons (tVar i) tNil)) σ H 20 (fun v _ => ∃ z, v = .str z ∧ okS z 13) := fun H1 k n pn hn Q q =>
  ⟨.ref p, hσ, p, L, n, rfl, pn, hn, fun z H2 hz k2 p2 => q (.str z) H2 k2 p2 ⟨z, rfl, hz⟩⟩
theorem ed_dict1 : Evd p L (tDisp [(tC (.str "a"), tC (.int 1))]) σ H 0 (fun v G => ∃ a kvs, v = .ref a ∧ G a = some (.dK kvs)) := fun H1 k n pn hn Q q o no =>
  ⟨upd_same, [(.inr "a", .int 1)], rfl, (by show 1 ≤ 15; decide), by
    have e1 := Evl.Ex.new (o := .dK []) no
    have e2 : ∀ u : HO, Same H1 (upd (upd H1 o (.dK [])) o u) := fun u b x h => by
      rw [upd_ne (ne_of_none h no)]
      exact e1 b x h
    exact q _ _ (Same.kp (e2 _)) (pn.same (e2 _)) ⟨o, _, rfl, hide_at (pn.ne no).1 upd_same⟩⟩
theorem seen_flat {v : V} {T : String} {G : Hp} (k : Knd G v T) (h1 : (T == "list") = false) (h2 : (T == "tuple") = false) (h : okV v) : SeenW v G := ⟨none, .flat k h1 h2, h⟩
theorem sc_vl : FnScope ["_law_store_here", "_law_way", "_law_some"] ["_law_store_here"] (defScope sLawValue) := ⟨rfl, rfl, rfl, by decide +kernel, rfl, by decide +kernel, by decide +kernel⟩
theorem ok_value {f fN fM fS : Addr} {fd fdN fdM fdS : FuncData} {k : Nat} (T : Tx mg) (N : Df P w K mg base (k + 1) "_law_next" ["_law_store_here", "_law_many"] spNext fN fdN) (M : Df P w K mg base (k + 1) "_law_name" ["_law_store_here"] spName fM fdM)
    (S : Df P w K mg base (k + 1) "_law_names" ["_law_store_here"] spNames fS fdS) (F : Fun K "_law_value" "_law_value" sLawValue f fd) : FnOk P w K mg base CX0 (k + 2) f fd ["_law_store_here"] spValue := by
  refine F.ok sc_vl (fun vs H Q E h => ?_) (fun cdv A outer s H vs Q E hr h => ?_)
  · obtain ⟨p, L, n, rfl, _⟩ := h
    rfl
  · obtain ⟨p, L, n, rfl, hP, hn, q⟩ := h
    have nd := sc_vl.nd
    refine ⟨_, pss_cons (ps_set (i := 1) nd rfl (.inl rfl) (pe_df N hr (pa_cons (pv 0) (pa_cons pe_int pa_nil))))
      (pss_cons (ps_if (pt_cmpR op_lt (pv 1) pe_int (nomark _)) (pss_cons (ps_set (i := 2) nd rfl (.inl rfl) (pe_df S hr (pa_cons (pv 0) pa_nil)))
        (pss_one (ps_ret (pe_ifExp (pt_cmpR op_eq (pe_df N hr (pa_cons (pv 0) (pa_cons pe_int pa_nil))) pe_int (nomark _)) (pv 2) (pe_callTy call_tuple_of (by rfl) T.tuple (by decide +kernel) (pa_cons (pv 2) pa_nil)))))) pss_nil)
      (pss_cons (ps_if (pt_cmpR op_eq (pv 1) pe_int (nomark _)) (pss_one (ps_ret (pe_op op_sub (pe_df N hr (pa_cons (pv 0) (pa_cons pe_int pa_nil))) pe_int))) pss_nil)
      (pss_cons (ps_if (pt_cmpR op_eq (pv 1) pe_int (nomark _)) (pss_one (ps_ret (pe_op op_sub (pe_df N hr (pa_cons (pv 0) (pa_cons (pe_op op_pow pe_int pe_int) pa_nil))) (pe_op op_mul pe_int (pe_op op_pow pe_int pe_int))))) pss_nil)
      (pss_cons (ps_if (pt_cmpR op_lt (pv 1) pe_int (nomark _)) (pss_one (ps_ret (pe_df M hr (pa_cons (pv 0) pa_nil)))) pss_nil)
      (pss_one (ps_ret (pe_ix ix_list (pe_lst (pa_cons pe_non (pa_cons pe_bl (pa_cons pe_bl (pa_cons pe_dnewK (pa_cons (pe_disp (pps_cons pe_str pe_int pps_nil) rfl rfl (by decide) (by decide)) (pa_cons pe_str
        (pa_cons (pe_lst (pa_cons (pe_lst pa_nil) pa_nil)) (pa_cons (pe_tup (pa_cons (pe_tup (pa_cons pe_str pa_nil)) pa_nil)) (pa_cons pe_str (pa_cons (pe_lst (pa_cons pe_int pa_nil)) (pa_cons pe_str (pa_cons (pe_tup (pa_cons pe_bl pa_nil)) pa_nil)))))))))))))
        (pe_df N hr (pa_cons (pv 0) (pa_cons pe_int pa_nil))) (fun _ _ => rfl)))))))), ?_⟩
    refine q_asgD (ed_nextC (M := 8) rfl (by decide) (by decide)) hP (by omega) fun v H1 k1 p1 hv => ?_
    obtain ⟨way, rfl, w0, w1⟩ := hv
    refine Evl.q_when (b := decide (way < 3)) (Evl.et_test (Evl.ev_op (Evl.ev_var rfl) Evl.ev_c Evl.rv_I0)) (fun _ G e => ?_) (fun _ G1 e1 => ?_)
    · refine q_asgD (ed_names rfl) (p1.same e) (by omega) fun v H2 k2 p2 hv => ?_
      obtain ⟨a, xs, rfl, ha, hl, hx⟩ := hv
      have nap := hide_ne ha
      refine s_retD (m := 1) (P := SeenW) (ed_ifD (m := 1) (m3 := 0) (b := fun _ => true) (ed_op (m := 1) (m' := 0) mon_lt (ed_nextC rfl (by decide) (by decide)) (ed_c (v := .int 0) (P := fun v _ => v = .int 0) fun _ => rfl) (fun x y H1 _ hx hy => ?_)) ?_ ?_) p2 (by omega) fun v H3 k3 p3 hv => q v H3 hv (((k1.trans (Same.kp e)).trans k2).trans k3) (p3.up (by omega))
      · obtain ⟨r, rfl, _, _⟩ := hx
        subst hy
        exact ⟨_, Evl.rv_eq rfl, fun _ => ⟨_, rfl⟩⟩
      · intro G2 kG m pG hm Q' q'
        exact ⟨.ref a, rfl, q' _ G2 (Kp.refl p G2) pG ⟨some xs, .lst (hide_kp kG _ _ ha) hl (fun x h => (hx x h).mono (hide_kp kG)), True.intro⟩⟩
      · intro G2 kG m pG hm Q' q'
        have haG := kG _ _ nap (hide_sub _ _ _ _ ha)
        refine ⟨.ref a, rfl, a, xs, rfl, .inl ⟨Evl.sq_of haG, fun l nl => ?_⟩⟩
        have el := Evl.Ex.new (o := .tup xs) nl
        exact q' _ _ (Same.kp el) (pG.same el) ⟨some xs, .tup (hide_at (pG.ne nl).1 upd_same) hl (fun x h => (hx x h).mono (hide_kp (kG.trans (Same.kp el)))), True.intro⟩
    refine Evl.q_when (b := decide (V.int way = V.int 3)) (Evl.et_test (Evl.ev_op (Evl.ev_var rfl) Evl.ev_c (Evl.rv_eq rfl))) (fun _ G e => ?_) (fun _ G2 e2 => ?_)
    · refine s_retD (m := 1) (P := SeenW) (ed_op (m := 1) (m' := 0) mon_lt (ed_nextC rfl (by decide) (by decide)) (ed_c (v := .int 2) (P := fun v _ => v = .int 2) fun _ => rfl) (fun x y H1 _ hx hy => ?_)) (p1.same (e1.trans e)) (by omega) fun v H3 k3 p3 hv => q v H3 hv ((k1.trans (Same.kp (e1.trans e))).trans k3) (p3.up (by omega))
      obtain ⟨r, rfl, _, _⟩ := hx
      subst hy
      exact ⟨_, Evl.rv_I0, fun G => seen_flat (.int _) (by decide) (by decide) True.intro⟩
    refine Evl.q_when (b := decide (V.int way = V.int 4)) (Evl.et_test (Evl.ev_op (Evl.ev_var rfl) Evl.ev_c (Evl.rv_eq rfl))) (fun _ G e => ?_) (fun _ G3 e3 => ?_)
    · refine s_retD (m := 1) (P := SeenW) (ed_op (m := 1) (m' := 0) mon_lt (ed_next (m := 0) (M := 10 ^ 30) rfl (by decide) (ed_of (fun H1 _ => Evl.ev_op Evl.ev_c Evl.ev_c (Evl.rv_I ⟨by decide, by decide, by decide⟩)) (fun _ => ⟨10 ^ 30, rfl, by decide, Int.le_refl _⟩)))
        (ed_of (P := fun v _ => ∃ j, v = .int j) (fun H1 _ => Evl.ev_op Evl.ev_c (Evl.ev_op Evl.ev_c Evl.ev_c (Evl.rv_I ⟨by decide, by decide, by decide⟩)) (Evl.rv_I (.inl ⟨by decide, by decide⟩))) fun _ => ⟨_, rfl⟩) (fun x y H1 _ hx hy => ?_))
        (p1.same ((e1.trans e2).trans e)) (by omega) fun v H3 k3 p3 hv => q v H3 hv ((k1.trans (Same.kp ((e1.trans e2).trans e))).trans k3) (p3.up (by omega))
      obtain ⟨r, rfl, _, _⟩ := hx
      obtain ⟨j, rfl⟩ := hy
      exact ⟨_, Evl.rv_I0, fun G => seen_flat (.int _) (by decide) (by decide) True.intro⟩
    refine Evl.q_when (b := decide (way < 7)) (Evl.et_test (Evl.ev_op (Evl.ev_var rfl) Evl.ev_c Evl.rv_I0)) (fun _ G e => ?_) (fun _ G4 e4 => ?_)
    · refine s_retD (ed_name rfl) (p1.same (((e1.trans e2).trans e3).trans e)) (by omega) fun v H3 k3 p3 hv => ?_
      obtain ⟨z, rfl, hz⟩ := hv
      exact q _ H3 (seen_flat (.str (Nat.le_trans hz.2 (by decide))) (by decide) (by decide) hz.ok) ((k1.trans (Same.kp (((e1.trans e2).trans e3).trans e))).trans k3) (p3.up (by omega))
    have e14 := ((e1.trans e2).trans e3).trans e4
    have cF : ∀ {σ : L2.St} {H : Hp} {T : String} (v : V), (∀ G, Knd G v T) → (T == "list") = false → (T == "tuple") = false → okV v → Evd p L (tC v) σ H 0 SeenW := fun v h h1 h2 h3 => ed_c fun G => seen_flat (h G) h1 h2 h3
    have strF : ∀ {σ : L2.St} {H : Hp} (z : Str), z.length ≤ 1000 → PySem.PyData.strOk z = true → Evd p L (tC (.str z)) σ H 0 SeenW := fun z h1 h2 => cF _ (fun _ => .str h1) (by decide) (by decide) h2
    have one : ∀ {ys : List V}, ys.length = 1 → ∃ y, ys = [y] := fun h => List.length_eq_one_iff.mp h
    have lE : ∀ {σ : L2.St} {H : Hp} {te : TE}, Evd p L te σ H 0 ElmW → Evd p L (tLst (tCons te tNil)) σ H 0 SeenW := fun h => Evd.imp (ed_lstP mon_elm (by decide) (eda_cons mon_elm h eda_nil)) fun v G ⟨b, ys, ev, hb, hl, hy⟩ => by
      subst ev
      exact ⟨some ys, .lst hb (by omega) hy, True.intro⟩
    have tE : ∀ {σ : L2.St} {H : Hp} {te : TE}, Evd p L te σ H 0 ElmW → Evd p L (tTup (tCons te tNil)) σ H 0 SeenW := fun h => Evd.imp (ed_tupP mon_elm (by decide) (eda_cons mon_elm h eda_nil)) fun v G ⟨b, ys, ev, hb, hl, hy⟩ => by
      subst ev
      exact ⟨some ys, .tup hb (by omega) hy, True.intro⟩
    have c := @eda_cons
    refine s_retD (m := 1) (P := SeenW) (ed_pick (N := 12) (m := 0) (m' := 1) mon_seen (by decide) (eda_cons mon_seen (cF _ (fun _ => .non) (by decide) (by decide) True.intro) (eda_cons mon_seen (cF _ (fun _ => .bl _) (by decide) (by decide) True.intro) (eda_cons mon_seen (cF _ (fun _ => .bl _) (by decide) (by decide) True.intro)
      (eda_cons mon_seen (Evd.imp ed_dict0 fun v G h => ?_) (eda_cons mon_seen (Evd.imp ed_dict1 fun v G h => ?_) (eda_cons mon_seen (strF _ (by decide) (by decide +kernel)) (eda_cons mon_seen (lE (Evd.imp (ed_lstP (N := 0) (P := ElmW) mon_elm (by decide) eda_nil) fun v G h => ?_))
      (eda_cons mon_seen (tE (Evd.imp (ed_tupP (N := 1) (P := fun v _ => v = .str "a") (fun _ _ _ _ h => h) (by decide) (eda_cons (fun _ _ _ _ h => h) (ed_c fun _ => rfl) eda_nil)) fun v G h => ?_)) (eda_cons mon_seen (strF _ (by decide) (by decide +kernel)) (eda_cons mon_seen (lE (ed_c fun _ => .int _)) (eda_cons mon_seen (strF _ (by decide) (by decide +kernel))
      (eda_cons mon_seen (tE (ed_c fun _ => .bl _)) eda_nil)))))))))))) (ed_nextC rfl (by decide) (by decide))) (p1.same e14) (by omega) fun v H3 k3 p3 hv => q v H3 hv ((k1.trans (Same.kp e14)).trans k3) (p3.up (by omega))
    · obtain ⟨b, rfl, hb⟩ := h
      exact seen_flat (.dict hb) (by decide) (by decide) True.intro
    · obtain ⟨b, kvs, rfl, hb⟩ := h
      exact seen_flat (.dict hb) (by decide) (by decide) True.intro
    · obtain ⟨b, ys, rfl, hb, hl, _⟩ := h
      obtain rfl := List.eq_nil_of_length_eq_zero hl
      exact .lst (zs := []) hb (fun _ h => nomatch h)
    · obtain ⟨b, ys, rfl, hb, hl, hy⟩ := h
      obtain ⟨y, rfl⟩ := one hl
      have hy1 := hy y (List.mem_cons_self ..)
      subst hy1
      exact .tup (zs := ["a"]) hb (by decide +kernel)
end
end K01
/-! sorted(xs, key=f), f a def of the text that raises nothing and gives data. -/
namespace BW
open PySem PySem.Spec PyProof.Rows L2
open PySem.W (EachIs AllAlike Sortable dataLe dataKind KeepsBut KeyedOut sortVals copyHeap sortingHeap)
mutual
theorem dp_ex {K : PySem.W.Frag} {H H' : Hp} (e : Evl.Ex H H') : ∀ {v : V} {d : PyData}, Dp K H v d → Dp K H' v d
  | _, _, .non => .non
  | _, _, .bl b => .bl b
  | _, _, .int i => .int i
  | _, _, .str x => .str x
  | _, _, .lst h r => .lst (Evl.ex_l e h) (dps_ex e r)
  | _, _, .tup h r => .tup (Evl.ex_t e h) (dps_ex e r)
theorem dps_ex {K : PySem.W.Frag} {H H' : Hp} (e : Evl.Ex H H') : ∀ {vs : List V} {ds : List PyData}, DpAll K H vs ds → DpAll K H' vs ds
  | _, _, .nil => .nil
  | _, _, .cons h r => .cons (dp_ex e h) (dps_ex e r)
end
theorem vals_ads {β : Type} (ad : β → Addr) : ∀ {bs : List β} {us : List Value}, Vals (bs.map fun b => V.ref (ad b)) us → us = bs.map fun b => Value.ref (ad b)
  | [], _, .nil => rfl
  | b :: bs, _, .cons (b := u) r t => by
    rw [vals_ads ad t, List.map_cons]
    congr 1
theorem ads_vals {β : Type} (ad : β → Addr) : ∀ bs : List β, Vals (bs.map fun b => V.ref (ad b)) (bs.map fun b => Value.ref (ad b))
  | [] => .nil
  | _ :: bs => .cons rfl (ads_vals ad bs)
theorem each_ads {β : Type} (ad : β → Addr) : ∀ bs : List β, EachIs (fun (v : Value) b => v = .ref (ad b)) (bs.map fun b => Value.ref (ad b)) bs
  | [] => .nil
  | _ :: bs => .cons rfl (each_ads ad bs)
theorem ads_each {β : Type} (ad : β → Addr) : ∀ {us : List Value} {bs : List β}, EachIs (fun (v : Value) b => v = .ref (ad b)) us bs → us = bs.map fun b => Value.ref (ad b)
  | _, _, .nil => rfl
  | _, _, .cons h r => by rw [h, ads_each ad r]; rfl
theorem each_reads {X : Cx} {pins : List (Addr × Obj)} {σ : L2.St} {H : Hp} {s : Shared} {β : Type} {k : β → PyData} (I : Inv X pins σ H s) : ∀ {kv : List V} {us : List Value} {bs : List β}, Vals kv us → EachIs (fun v b => Dp X.K H v (k b)) kv bs → EachIs (fun (u : Value) d => ∃ as, Reads s.heap u d as) us (bs.map k)
  | _, _, _, .nil, .nil => .nil
  | _, _, _, .cons r t, .cons h q => .cons (Dp.reads I _ _ _ h r) (each_reads I t q)
theorem each_len {α β : Type} {R : α → β → Prop} : ∀ {as : List α} {bs : List β}, EachIs R as bs → as.length = bs.length
  | _, _, .nil => rfl
  | _, _, .cons _ r => congrArg Nat.succ (each_len r)
theorem each_up {α β : Type} {R R' : α → β → Prop} (h : ∀ a b, R a b → R' a b) : ∀ {as : List α} {bs : List β}, EachIs R as bs → EachIs R' as bs
  | _, _, .nil => .nil
  | _, _, .cons a r => .cons (h _ _ a) (each_up h r)
section
variable {X : Cx} {pins : List (Addr × Obj)} {σ : L2.St} {H : Hp} {s : Shared} {Q : VK} {β : Type} {ad : β → Addr} {k : β → PyData} {bs : List β} {l f : Addr} {fd : FuncData} {nm : Str} {sp : Sp} {j : Nat}
/-- an object that nothing here speaks of -/
structure Mine (X : Cx) (pins : List (Addr × Obj)) (b : Addr) : Prop where
  up : X.s_0.heap.objs.size ≤ b
  loc : b ≠ X.env.locals
  cel : ∀ x c, X.env.cells.lookup x = some c → c ≠ b
  pin : ∀ p ∈ X.pn ++ pins, p.1 ≠ b
  fr : b ∉ frs X.stack
theorem mine_of (I : Inv X pins σ H s) {b : Addr} (h : s.heap.objs.size ≤ b) : Mine X pins b := by
  refine ⟨Nat.le_trans I.sz h, fun e => ?_, fun x c e z => ?_, fun p hp z => ?_, fun hb => ?_⟩
  · exact Nat.lt_irrefl _ (Nat.lt_of_lt_of_le (e ▸ I.lt) h)
  · obtain ⟨v, o, ho, _⟩ := I.cell x c e
    exact Nat.lt_irrefl _ (Nat.lt_of_lt_of_le (z ▸ Heap.lt_size ho) h)
  · exact Nat.lt_irrefl _ (Nat.lt_of_lt_of_le (z ▸ Heap.lt_size (I.pin p hp).1) h)
  · rcases List.mem_cons.mp (I.stkSub b hb) with e | e
    · exact Nat.lt_irrefl _ (Nat.lt_of_lt_of_le (e ▸ I.lt) h)
    · exact I.nofs h e
/-- what stands while the keys are made -/
structure Mak (X : Cx) (pins : List (Addr × Obj)) (σ : L2.St) (H : Hp) (kS a : Addr) (e1 : Nat) (k : β → PyData) (bs : List β) (s' : Shared) : Prop where
  ex : ∃ (H' : Hp) (kA : Array Value) (e : Nat) (kv : List V), Inv X pins σ H' s' ∧ Evl.Ex H H' ∧ H' kS = none ∧ H' a = none ∧ s'.heap.get? kS = some (seqObj "list" kA e) ∧ s'.heap.get? a = some (seqObj "list" #[] e1) ∧ Vals kv kA.toList ∧ EachIs (fun v b => Dp X.K H' v (k b)) kv bs
theorem mak_turn {A2 : Around} {kS a : Addr} {e1 : Nat} {b : β} {bt : List β} {s' : Shared} {x : Value} {E' : Value → Shared → Prop} (hA : Env0 X.prog X.w X.K X.mg X.base X.A X.stack s' H → True) (hfr : A2.frames = X.A.frames) (F : FnOk X.prog X.w X.K X.mg X.base CX0 j f fd [nm] sp) (hb : Binds X.K fd [nm] []) (hr : Room j A2)
    (mS : Mine X pins kS) (hka : kS ≠ a) (mA : Mine X pins a) (hz : bt.length ≤ 1000) (hx : x = .ref (ad b))
    (turn : ∀ H1, Evl.Ex H H1 → ∀ Q : VK, (∀ v H2, Evl.Ex H1 H2 → Dp X.K H2 v (k b) → Q v H2) → sp [V.ref (ad b)] H1 Q E0) (m : Mak X pins σ H kS a e1 k bt s') :
    wpAny (model X.prog X.w) A2 (call (.ref f) [x]) (fun u s'' => ∀ {P : Unit → Shared → Prop}, (∀ s3, Mak X pins σ H kS a e1 k (bt ++ [b]) s3 → P () s3) → wpAny (model X.prog X.w) A2 (Builtin.List.listUpdate (.ref kS) (·.push u)) P E' s'') (fun _ _ => False) s' := by
  obtain ⟨H', kA, e, kv, I', eH, nk, na, gk, ga, rv, hd⟩ := m
  have e0 : Env0 X.prog X.w X.K X.mg X.base A2 X.stack s' H' := by
    have z := I'.env0
    exact ⟨hfr.trans z.frames, z.mod, z.bs, z.bsz, z.funs, z.frf, z.hok, z.bare⟩
  subst hx
  refine wpAny_call (codeAny_mono (F.run A2 X.stack s' H' ⟨[.ref (ad b)], []⟩ [.ref (ad b)] [V.ref (ad b)] (fun v H2 => Evl.Ex H' H2 ∧ Dp X.K H2 v (k b)) E0 hr e0 (hb s' [.ref (ad b)] I'.kIn rfl) (.cons rfl .nil) (turn H' eH _ fun v H2 e2 d => ⟨e2, d⟩)) fun r s'' hq => ?_)
  cases r with
  | error er => exact (show False from hq).elim
  | ok fl =>
    cases fl with
    | ret u =>
      obtain ⟨v, H2, os, bare, un, hok, ru, e2, d⟩ := hq
      obtain ⟨hp, g, dr, t, os'⟩ := s''
      obtain rfl : os' = s'.os := os
      have I2 : Inv X pins σ H2 ⟨hp, g, dr, t, s'.os⟩ := I'.call (h' := hp) (g' := g) (d' := dr) (t' := t) (ch := []) un hok bare fun b z => nomatch z
      have gk2 : hp.get? kS = some (seqObj "list" kA e) := un.keep kS _ gk nk mS.fr (fun z => nomatch z)
      have ga2 : hp.get? a = some (seqObj "list" #[] e1) := un.keep a _ ga na mA.fr (fun z => nomatch z)
      have nk2 := un.free kS _ gk nk (fun z => nomatch z)
      have na2 := un.free a _ ga na (fun z => nomatch z)
      intro P hP
      have sz : kA.size ≤ 1000 := by
        have h1 := each_len hd
        have h2 := rv.length
        have h3 : kA.toList.length = kA.size := Array.length_toList
        have h2' : kv.length = kA.toList.length := h2
        omega
      have sb := Heap.SameBut.update hp kS (Obj.mapSeq (·.push u))
      obtain ⟨c2, hc2⟩ : ∃ c2, (hp.update kS (Obj.mapSeq (·.push u))).get? kS = some (seqObj "list" (kA.push u) c2) := ⟨_, get?_update_seq gk2 (·.push u)⟩
      refine listUpdate_at gk2 rfl (hP _ ⟨H2, kA.push u, c2, kv ++ [v], ?_, eH.trans e2, nk2, na2, hc2, (sb.2 a hka.symm).trans ga2, ?_, ?_⟩) (Evl.sz_of (by omega)) (Nat.le_trans (Nat.le_of_eq (Array.size_push ..)) (Nat.succ_le_succ (Evl.sz_of (by omega))))
      · exact I2.turned (t' := t) (fun c o nc q => (sb.2 c nc).trans q) nk2 mS.loc (.inr mS.up) mS.cel mS.pin
      · rw [Array.toList_push]
        exact rv.append (.cons ru .nil)
      · have app : ∀ {as : List V} {xs : List β}, EachIs (fun v b => Dp X.K H2 v (k b)) as xs → EachIs (fun v b => Dp X.K H2 v (k b)) (as ++ [v]) (xs ++ [b]) := fun {as xs} h => by
          induction h with
          | nil => exact .cons d .nil
          | cons p _ ih => exact .cons p ih
        exact app (each_up (fun _ _ q => dp_ex e2 q) hd)
    | next => exact (show False from hq).elim
    | brk => exact (show False from hq).elim
    | cont => exact (show False from hq).elim
theorem run_sortF (I : Inv X pins σ H s) (F : FnOk X.prog X.w X.K X.mg X.base CX0 j f fd [nm] sp) (hb : Binds X.K fd [nm] []) (hr : Room (j + 2) X.A) (hl : SqL X.K H l (bs.map fun b => V.ref (ad b))) (hL : bs.length ≤ 1000) (hal : AllAlike (bs.map k)) (hk : Sortable (bs.map k))
    (hu : ∀ d ∈ bs.map k, X.A.in1.in1.units + d.depth < cLine) (turn : ∀ b ∈ bs, ∀ H1, Evl.Ex H H1 → ∀ Q : VK, (∀ v H2, Evl.Ex H1 H2 → Dp X.K H2 v (k b) → Q v H2) → sp [V.ref (ad b)] H1 Q E0)
    (q : ∀ p H', H p = none → Evl.Ex H H' → H' p = some (.lst ((bs.mergeSort (dataLe false k)).map fun b => V.ref (ad b))) → Q (.ref p) H') :
    wpAny (model X.prog X.w) X.A (call (.builtin "sorted") [.ref l] [(Str.ofString "key", .ref f)]) (EP X pins σ Q) X.xe s := by
  obtain ⟨its, rv, pl, _⟩ := I.list hl
  obtain rfl := vals_ads ad rv
  have hlen : (bs.map fun b => Value.ref (ad b)).length = bs.length := List.length_map ..
  have hZ : (bs.map fun b => Value.ref (ad b)).length ≤ sizeLine := by rw [hlen]; exact Evl.sz_of (by omega)
  refine PySem.W.sorted_of_sort pl.isList hZ (PyProof.Rows.ksk_s1 _ _) (fun _ => PyProof.Rows.ksk_l1 _ _) fun E' => ?_
  rw [PyProof.Rows.ksk_t1]
  have mA : Mine X pins (s.heap.objs.size + 1) := mine_of I (Nat.le_succ s.heap.objs.size)
  have ho := PySem.W.copyHeap_at s.heap (bs.map fun b => Value.ref (ad b))
  have old6 : ∀ b o, s.heap.get? b = some o → (sortingHeap (copyHeap s.heap (bs.map fun b => Value.ref (ad b))) (s.heap.objs.size + 1) (bs.map fun b => Value.ref (ad b))).get? b = some o := fun b o e => PySem.W.sorting_copy_old e
  obtain ⟨e1, ho1⟩ : ∃ e1, ((copyHeap s.heap (bs.map fun b => Value.ref (ad b))).update (s.heap.objs.size + 1) (Obj.mapSeq fun _ => (#[] : Array Value))).get? (s.heap.objs.size + 1) = some (seqObj "list" #[] e1) := ⟨_, get?_update_seq ho fun _ => #[]⟩
  have size2 : (copyHeap s.heap (bs.map fun b => Value.ref (ad b))).objs.size = s.heap.objs.size + 2 := by
    unfold PySem.W.copyHeap
    rw [size_push', Heap.size_update, size_push']
  have size3 : (((copyHeap s.heap (bs.map fun b => Value.ref (ad b))).update (s.heap.objs.size + 1) (Obj.mapSeq fun _ => (#[] : Array Value))).push (seqObj "tuple" (bs.map fun b => Value.ref (ad b)).toArray 0)).objs.size = s.heap.objs.size + 3 := by
    rw [size_push', Heap.size_update, size2]
  unfold PyProof.Rows.ksk_tree
  refine wpAny_bind (listItems_at ho rfl (wpAny_bind (listUpdate_at ho rfl (wpAny_bind (seqEpoch_at ho1 rfl (wpAny_bind (wpAny_newTuple (wpAny_bind (wpAny_newList (wpAny_holding ?_) (Nat.zero_le _))) hZ)))) (by rw [List.size_toArray]; exact hZ) (Nat.zero_le _))))
  have gk6 := Heap.get?_push_size (((copyHeap s.heap (bs.map fun b => Value.ref (ad b))).update (s.heap.objs.size + 1) (Obj.mapSeq fun _ => (#[] : Array Value))).push (seqObj "tuple" (bs.map fun b => Value.ref (ad b)).toArray 0)) (o := seqObj "list" #[] 0) rfl
  have ga6 : (sortingHeap (copyHeap s.heap (bs.map fun b => Value.ref (ad b))) (s.heap.objs.size + 1) (bs.map fun b => Value.ref (ad b))).get? (s.heap.objs.size + 1) = some (seqObj "list" #[] e1) := Heap.get?_push_of_some _ (Heap.get?_push_of_some _ ho1)
  rw [size3] at gk6
  show wpAny (model X.prog X.w) X.A.in1.in1 (ksk_rest (s.heap.objs.size + 1) (.ref f) false (bs.map fun b => Value.ref (ad b)).toArray e1 (.ref (((copyHeap s.heap (bs.map fun b => Value.ref (ad b))).update (s.heap.objs.size + 1) (Obj.mapSeq fun _ => (#[] : Array Value))).push (seqObj "tuple" (bs.map fun b => Value.ref (ad b)).toArray 0)).objs.size)) _ _
    { s with heap := sortingHeap (copyHeap s.heap (bs.map fun b => Value.ref (ad b))) (s.heap.objs.size + 1) (bs.map fun b => Value.ref (ad b)) }
  rw [size3]
  have mS : Mine X pins (s.heap.objs.size + 3) := mine_of I (Nat.le_add_right s.heap.objs.size 3)
  have I6 : Inv X pins σ H { s with heap := sortingHeap (copyHeap s.heap (bs.map fun b => Value.ref (ad b))) (s.heap.objs.size + 1) (bs.map fun b => Value.ref (ad b)) } := I.kept (t' := s.toks) old6
  have hka : s.heap.objs.size + 3 ≠ s.heap.objs.size + 1 := by omega
  have start : Mak X pins σ H (s.heap.objs.size + 3) (s.heap.objs.size + 1) e1 k ([] : List β) { s with heap := sortingHeap (copyHeap s.heap (bs.map fun b => Value.ref (ad b))) (s.heap.objs.size + 1) (bs.map fun b => Value.ref (ad b)) } :=
    ⟨H, #[], 0, [], I6, Evl.Ex.refl H, I.hok.fresh (Nat.le_add_right _ 3), I.hok.fresh (Nat.le_succ _), gk6, ga6, .nil, .nil⟩
  have nA : H (s.heap.objs.size + 1) = none := I.hok.fresh (Nat.le_succ s.heap.objs.size)
  generalize { s with heap := sortingHeap (copyHeap s.heap (bs.map fun b => Value.ref (ad b))) (s.heap.objs.size + 1) (bs.map fun b => Value.ref (ad b)) } = s6 at start ⊢
  generalize s.heap.objs.size + 3 = kS at mS hka start ⊢
  generalize s.heap.objs.size + 1 = a at mA hka start nA ⊢
  unfold PyProof.Rows.ksk_rest
  refine wpAny_bind (wpAny_rule ?_)
  rw [List.forIn_toArray]
  have hr2 : Room j X.A.in1.in1 := hr.in1.in1
  refine wpAny_bind (PyProof.Rows.ksk_fold (fun i s' => Mak X pins σ H kS a e1 k (bs.take i) s') _ 0 s6 (by rw [List.take_zero]; exact start) ?step ?done)
  case step =>
    intro i x s' hx m
    rw [Nat.zero_add] at m ⊢
    rw [List.getElem?_map] at hx
    cases hbi : bs[i]? with
    | none =>
      rw [hbi] at hx
      cases hx
    | some b =>
      rw [hbi] at hx
      have hx' : x = Value.ref (ad b) := (Option.some.inj hx).symm
      refine wpAny_bind (wpAny_attempt (wpAny_mono (mak_turn (E' := E') (fun _ => True.intro) rfl F hb hr2 mS hka mA (by rw [List.length_take]; omega) hx' (turn b (List.mem_of_getElem? hbi)) m) (fun u s'' h => ?_) fun _ _ z => z.elim))
      refine wpAny_bind (h fun s3 m3 => wpAny_pure ⟨rfl, ?_⟩)
      rw [take_up hbi]
      exact m3
  case done =>
    intro s' m
    obtain ⟨H', kA, e, kv, I', eH, nk, na, gk, ga, rvk, hd⟩ := m
    rw [Nat.zero_add, hlen, List.take_length] at hd
    have hsz : kA.size = bs.length := by
      have h1 := each_len hd
      have h2 := rvk.length
      have h3 : kA.toList.length = kA.size := Array.length_toList
      have h2' : kv.length = kA.toList.length := h2
      omega
    have er := each_reads I' rvk hd
    obtain ⟨G, g1, g2⟩ := restrict s'.heap fun b => b != kS
    have kp : KeepsBut a G s'.heap := fun b o nb z => by
      by_cases hbk : b = kS
      · rw [hbk, g2 kS (by simp)] at z
        cases z
      · rw [g1 b (by simpa using hbk)] at z
        exact z
    refine wpAny_bind (listItems_at gk rfl (PySem.W.keyH_end (κ := dataKind s'.heap (bs.map k)) (h₁ := G) kp (g2 kS (by simp)) gk ga hka (PySem.W.SortsAt.data er hal hk hu) (by rw [hsz, hlen]) hZ fun h3 tk3 c k3 n3 => ⟨rfl, ?_⟩))
    have out : sortVals (dataKind s'.heap (bs.map k)) false kA.toList (bs.map fun b => Value.ref (ad b)) = (bs.mergeSort (dataLe false k)).map fun b => Value.ref (ad b) :=
      ads_each ad (PySem.W.keyedOut_each k ⟨s'.heap, kA.toList, hal, rfl, er⟩ (each_ads ad bs))
    rw [out] at n3
    have old3 : ∀ b o, b ∉ [kS, a] → s'.heap.get? b = some o → h3.get? b = some o := fun b o nb z => by
      have n1 : b ≠ kS := fun e => nb (by simp [e])
      have n2 : b ≠ a := fun e => nb (by simp [e])
      exact k3 b o n2 (by rw [g1 b (by simpa using n1)]; exact z)
    have neH : ∀ b o, H' b = some o → b ∉ [kS, a] := fun b o z hm => by
      rcases List.mem_cons.mp hm with e | hm
      · rw [e, nk] at z
        cases z
      · rw [List.mem_singleton.mp hm, na] at z
        cases z
    have exF : Evl.Ex H' (upd H' a (.lst ((bs.mergeSort (dataLe false k)).map fun b => V.ref (ad b)))) := Evl.Ex.new na
    refine ⟨.ref a, upd H' a (.lst ((bs.mergeSort (dataLe false k)).map fun b => V.ref (ad b))), ?_, rfl, q a _ nA (eH.trans exF) upd_same⟩
    refine I'.step (g' := s'.gens) (d' := s'.drawn) (ch := [kS, a]) (fun b hm => ?_) (fun b o _ _ nb z _ => old3 b o nb z) (fun b o _ _ nb z _ => ⟨o.slots, old3 b o nb z⟩) (fun b o nb _ n => ?_) (fun b o nb z => ⟨o, old3 b o nb z⟩)
      (fun b xs z => exF b _ z) (fun b o u z => exF b _ z) (fun b ps z => ⟨#[], by rw [exF b _ z]; simp⟩) (fun mm hm => ?_) (fun b o z => ?_) I'.bare
    · rcases List.mem_cons.mp hm with e | hm
      · rw [e]
        exact ⟨.inr mS.up, mS.loc, mS.cel, mS.pin⟩
      · rw [List.mem_singleton.mp hm]
        exact ⟨.inr mA.up, mA.loc, mA.cel, mA.pin⟩
    · rw [upd_ne (fun e => nb (by simp [e]))]
      exact n
    · obtain ⟨o, es, ep, ho', r'⟩ := hm
      exact ⟨o, es, ep, old3 _ _ (fun z => by rcases List.mem_cons.mp z with e | z; exact mS.loc e.symm; exact mA.loc (List.mem_singleton.mp z).symm) ho', r'⟩
    · by_cases hba : b = a
      · rw [hba, upd_same] at z
        obtain rfl := Option.some.inj z
        rw [hba]
        refine ⟨?_, (bs.mergeSort (dataLe false k)).map (fun b => Value.ref (ad b)), c, ads_vals ad _, n3⟩
        rw [List.length_map, List.length_mergeSort]
        exact Evl.sz_of (by omega)
      · rw [upd_ne hba] at z
        refine (I'.hok b o z).stay (fun d v hc w => old3 d v ?_ w) (fun d w => exF d _ w) fun d xs w => exF d _ w
        rcases hc with hc | hc
        · rw [hc]
          exact neH b o z
        · exact neH d _ hc
end
end BW
/-! Evaluations that draw, a word for each place. -/
namespace BW
open PySem PySem.Spec PyProof.Rows L2
def Eds (p L : Addr) (tr : TA) (σ : L2.St) (H : Hp) (m : Nat) (Ps : List Wd) : Prop := ∀ H1, Kp p H H1 → ∀ n, PenL H1 p L n → n + m ≤ 100000 → ∀ Q : List V → Hp → Prop, (∀ vs H2, Kp p H1 H2 → PenL H2 p L (n + m) → Alls Ps vs (hide p H2) → Q vs H2) → tr σ H1 Q
section
variable {p L : Addr} {te ta tb : TE} {tr : TA} {σ : L2.St} {H H' : Hp} {m m' N : Nat} {P P' : Wd} {Ps : List Wd} {v : V} {K : PySem.W.Frag}
theorem eds_nil : Eds p L tNil σ H 0 [] := fun H1 k n pn hn Q q => q [] H1 (Kp.refl p H1) pn .nil
theorem eds_cons (mP : Mon P) (h : Evd p L te σ H m P) (hr : Eds p L tr σ H m' Ps) : Eds p L (tCons te tr) σ H (m + m') (P :: Ps) := fun H1 k n pn hn Q q =>
  h H1 k n pn (by omega) _ fun v H2 k2 p2 pv => hr H2 (k.trans k2) (n + m) p2 (by omega) _ fun vs H3 k3 p3 pvs => q _ H3 (k2.trans k3) (by rw [← Nat.add_assoc]; exact p3) (.cons (mP _ _ _ (hide_kp k3) pv) pvs)
theorem ed_lstO (mP : ∀ P ∈ Ps, Mon P) (hN : Ps.length ≤ 100000) (h : Eds p L tr σ H m Ps) : Evd p L (tLst tr) σ H m (LstOf Ps) := fun H1 k n pn hn Q q =>
  h H1 k n pn hn _ fun vs H2 k2 p2 pvs => ⟨by rw [pvs.length]; exact Evl.sz_of hN, fun a na => by
    have ka : Kp p H2 (upd H2 a (.lst vs)) := Same.kp (same_new na)
    exact q _ _ (k2.trans ka) (p2.same (same_new na)) ⟨a, vs, rfl, hide_at (p2.ne na).1 upd_same, pvs.mono mP (hide_kp ka)⟩⟩
theorem ed_ofU {xs : List V} (h : ∀ H1, Evl.EvU te σ H1 xs) : Evd p L te σ H 0 (fun v G => ∃ a, v = .ref a ∧ G a = some (.tup xs)) := fun H1 k n pn hn Q q =>
  h H1 H1 (Evl.Ex.refl H1) _ fun a H2 na e ha => q _ H2 (Same.kp e) (pn.same e) ⟨a, rfl, hide_at (pn.ne na).1 ha⟩
theorem ed_ofL {xs : List V} (h : ∀ H1, Evl.EvL te σ H1 xs) : Evd p L te σ H 0 (fun v G => ∃ a, v = .ref a ∧ G a = some (.lst xs)) := fun H1 k n pn hn Q q =>
  h H1 H1 (Evl.Ex.refl H1) _ fun a H2 na e ha => q _ H2 (Same.kp e) (pn.same e) ⟨a, rfl, hide_at (pn.ne na).1 ha⟩
/-- if not e: .. , e true -/
theorem s_whenD {D : Ends} {tu : TS} {n : Nat} (h : Evd p L te σ H m (fun v _ => v = .bl true)) (pn : PenL H p L n) (hn : n + m ≤ 100000) (k : ∀ H1, Kp p H H1 → PenL H1 p L (n + m) → D.nx σ H1) : tIfS (tNot (tB te)) tu tNext D σ H :=
  h H (Kp.refl p H) n pn hn _ fun v H1 k1 p1 e => ⟨true, e, k H1 k1 p1⟩
/-- [x for i, x in enumerate(xs) if t], xs a list that stands -/
theorem en_lcV {tl : TE} {tt : TT} {i j : Nat} {vs : List Nat} {a : Addr} {xs : List V} (J : Nat → List V → Prop) (hl : Evl.Ev tl σ H (.ref a)) (ha0 : H a = some (.lst xs)) (hM : xs.length ≤ 1000) (hjs : ∀ y z, ((((wipe σ vs).set i (some y)).set j (some z)))[j]? = some (some z))
    (hw : ∀ y z, wipe (((wipe σ vs).set i (some y)).set j (some z)) vs = wipe σ vs) (h0 : J 0 [])
    (hs : ∀ (t : Nat) (x : V) (acc : List V), xs[t]? = some x → J t acc → ∀ H1, Evl.Ex H H1 → ∀ Q : Bool → Hp → Prop, (∀ b H2, Evl.Ex H1 H2 → J (t + 1) (if b = true then acc ++ [x] else acc) → Q b H2) → tt (((wipe σ vs).set i (some (.int (t : Int)))).set j (some x)) H1 Q) (hacc : ∀ t acc, J t acc → acc.length ≤ t) :
    Evn (tLc (iEnum K (tCons tl tNil)) (gTup K 2 (gCons (gName i) (gCons (gName j) gNil))) tt (tVar j) vs) σ H (J xs.length) := fun H1 e Q q =>
  hl H1 e _ fun H2 e2 => by
    have ha : H2 a = some (.lst xs) := e2 _ _ (e _ _ ha0)
    refine ⟨a, xs, rfl, Evl.sq_of ha, fun Dl hD => ?_⟩
    refine lc_it (walk_enum (K := K) (a := a) (xs := xs)) (fun t G => ∃ acc, J t acc ∧ Evl.Ex H2 G ∧ G Dl = some (.lst acc) ∧ t ≤ xs.length) ⟨[], h0, Evl.Ex.new hD, upd_same, Nat.zero_le _⟩ (fun t G _ hp => ?_) (fun t x G G' ht hp hy => ?_) (fun G hp => ?_)
    · obtain ⟨acc, _, e3, _⟩ := hp
      exact Evl.sq_of (e3 _ _ ha)
    · obtain ⟨acc, hJ, e3, hd, htl⟩ := hp
      obtain ⟨T, y, z, rfl, nT, rfl, ey, ez⟩ := hy
      obtain rfl := Option.some.inj ey
      have eT : Evl.Ex G (upd G T (.tup [.int (t : Nat), z])) := Evl.Ex.new nT
      refine ⟨T, _, rfl, .inl (.inl upd_same), rfl, .int (t : Nat), _, rfl, z, [], rfl, rfl, hw _ _, ?_⟩
      have neD : Dl ≠ T := ne_of_none hd nT
      refine hs t z acc ez hJ _ ((e.trans e2).trans (e3.trans eT)) _ fun b H3 e4 hJ' => ?_
      have hd3 : H3 Dl = some (.lst acc) := e4 _ _ (eT _ _ hd)
      have la := hacc _ _ hJ
      cases b with
      | true =>
        rw [if_pos rfl] at hJ' ⊢
        refine ⟨z, hjs _ _, acc, hd3, small_of (by omega), acc ++ [z], hJ', ?_, upd_same, ht⟩
        exact Evl.Ex.mut ((e3.trans eT).trans e4) hD
      | false =>
        rw [if_neg Bool.false_ne_true] at hJ' ⊢
        exact ⟨acc, hJ', (e3.trans eT).trans e4, hd3, ht⟩
    · obtain ⟨acc, hJ, e3, hd, _⟩ := hp
      exact q Dl acc G (Evl.fresh_back e2 hD) (e2.trans e3) hd hJ
end
end BW
namespace K01
open PySem PySem.Spec PyProof.Rows L2 BW LamX
/-! the items of the three lists -/
def tksI : List Tk := [.k (.inl 0), .k (.inl 1), .k (.inl (-2)), .k (.inl 3)]
def tksS : List Tk := [.k (.inr "a"), .k (.inr "b"), .k (.inr "a1")]
def tksT : List Tk := [.t ["a"], .t ["b", "a"], .t [], .t ["a", "b"]]
def allTk : List Tk := tksI ++ tksS ++ tksT
def dT : Tk → PyData
  | .k (.inl i) => .int i
  | .k (.inr z) => .str z
  | .t ss => .tuple (ss.map .str)
theorem dt_eqv : ∀ a ∈ allTk, ∀ b ∈ allTk, PyData.eqv (dT a) (dT b) = decide (a = b) := by decide +kernel
theorem dt_lay : ∀ a ∈ allTk, PyData.canLay0 (dT a) = true ∧ (dT a).depth ≤ 1 := by decide +kernel
theorem dt_shaped : ∀ a ∈ allTk, SeqAt.shaped (dT a) = true := by decide +kernel
theorem dp_tk {K : PySem.W.Frag} {H : Hp} {v : V} {t : Tk} (h : IsTk K H v t) : Dp K H v (dT t) := by
  cases t with
  | k key =>
    cases key with
    | inl i =>
      obtain rfl : v = .int i := h
      exact .int i
    | inr z =>
      obtain rfl : v = .str z := h
      exact .str z
  | t ss =>
    obtain ⟨b, rfl, hb⟩ := h
    exact .tup (Evl.st_of hb) (dp_strs ss)
theorem lay_tks : ∀ {ts : List Tk}, (∀ t ∈ ts, t ∈ allTk) → PyData.canLayAll0 (ts.map dT) = true ∧ PyData.depthAll (ts.map dT) ≤ 1
  | [], _ => ⟨rfl, Nat.zero_le _⟩
  | t :: ts, h => by
    obtain ⟨h1, h2⟩ := lay_tks (ts := ts) fun y hy => h y (List.mem_cons_of_mem _ hy)
    obtain ⟨h3, h4⟩ := dt_lay t (h t (List.mem_cons_self ..))
    constructor
    · show (PyData.canLay0 (dT t) && PyData.canLayAll0 (ts.map dT)) = true
      rw [h3, h1]
      rfl
    · show max (dT t).depth (PyData.depthAll (ts.map dT)) ≤ 1
      omega
theorem any_tks {ts : List Tk} {t : Tk} (h : ∀ t ∈ ts, t ∈ allTk) (ht : t ∈ allTk) : ((ts.map dT).any fun z => PyData.eqv z (dT t)) = decide (t ∈ ts) := by
  rw [List.any_map]
  induction ts with
  | nil => rfl
  | cons x ts ih =>
    rw [List.any_cons, ih fun y hy => h y (List.mem_cons_of_mem _ hy)]
    show (PyData.eqv (dT x) (dT t) || _) = _
    rw [dt_eqv x (h x (List.mem_cons_self ..)) t ht]
    by_cases e : x = t
    · subst e
      simp
    · have e' : ¬ t = x := fun z => e z.symm
      simp [e, e']
/-- a list of items -/
inductive Tks (K : PySem.W.Frag) (H : Hp) : List V → List Tk → Prop where
  | nil : Tks K H [] []
  | cons {v : V} {t : Tk} {vs : List V} {ts : List Tk} (h : IsTk K H v t) (r : Tks K H vs ts) : Tks K H (v :: vs) (t :: ts)
theorem Tks.mono {K : PySem.W.Frag} {H H' : Hp} (e : Evl.Ex H H') : ∀ {vs : List V} {ts : List Tk}, Tks K H vs ts → Tks K H' vs ts
  | _, _, .nil => .nil
  | _, _, .cons h r => .cons (h.mono e) (r.mono e)
theorem Tks.dp {K : PySem.W.Frag} {H : Hp} : ∀ {vs : List V} {ts : List Tk}, Tks K H vs ts → DpAll K H vs (ts.map dT)
  | _, _, .nil => .nil
  | _, _, .cons h r => .cons (dp_tk h) r.dp
theorem Tks.len {K : PySem.W.Frag} {H : Hp} : ∀ {vs : List V} {ts : List Tk}, Tks K H vs ts → vs.length = ts.length
  | _, _, .nil => rfl
  | _, _, .cons _ r => congrArg Nat.succ r.len
theorem Tks.get {K : PySem.W.Frag} {H : Hp} : ∀ {vs : List V} {ts : List Tk} {i : Nat} {v : V}, Tks K H vs ts → vs[i]? = some v → ∃ t, ts[i]? = some t ∧ IsTk K H v t
  | _, _, _, _, .nil, h => by simp at h
  | _, _, 0, _, .cons h _, e => by
    obtain rfl := Option.some.inj e
    exact ⟨_, rfl, h⟩
  | _, _, i + 1, _, .cons _ r, e => r.get (i := i) e
theorem Tks.take {K : PySem.W.Frag} {H : Hp} : ∀ {vs : List V} {ts : List Tk} (n : Nat), Tks K H vs ts → Tks K H (vs.take n) (ts.take n)
  | _, _, 0, _ => .nil
  | _, _, _ + 1, .nil => .nil
  | _, _, n + 1, .cons h r => .cons h (r.take n)
theorem Tks.at_ {K : PySem.W.Frag} {H : Hp} {vs : List V} {ts : List Tk} (h : Tks K H vs ts) : TksAt K H vs ts := ⟨h.len, fun i x t h1 h2 => by
  obtain ⟨t', h3, h4⟩ := h.get h1
  rw [h2] at h3
  obtain rfl := Option.some.inj h3
  exact h4⟩
theorem Tks.snoc {K : PySem.W.Frag} {H : Hp} {v : V} {t : Tk} (h : IsTk K H v t) : ∀ {vs : List V} {ts : List Tk}, Tks K H vs ts → Tks K H (vs ++ [v]) (ts ++ [t])
  | _, _, .nil => .cons h .nil
  | _, _, .cons h' r => .cons h' (Tks.snoc h r)
/-- each item is one of the others -/
theorem Tks.pick {K : PySem.W.Frag} {H : Hp} {xs : List V} {ts : List Tk} (h : Tks K H xs ts) : ∀ {ys : List V}, (∀ y ∈ ys, y ∈ xs) → ∃ us, Tks K H ys us ∧ ∀ u ∈ us, u ∈ ts
  | [], _ => ⟨[], .nil, fun _ h => nomatch h⟩
  | y :: ys, hy => by
    obtain ⟨us, h1, h2⟩ := h.pick (ys := ys) fun z hz => hy z (List.mem_cons_of_mem _ hz)
    obtain ⟨i, hi⟩ := List.getElem?_of_mem (hy y (List.mem_cons_self ..))
    obtain ⟨t, h3, h4⟩ := h.get hi
    refine ⟨t :: us, .cons h4 h1, fun u hu => ?_⟩
    rcases List.mem_cons.mp hu with rfl | hu
    · exact List.mem_of_getElem? h3
    · exact h2 u hu
theorem tks_keys {K : PySem.W.Frag} {H : Hp} : ∀ ks : List Key, Tks K H (ks.map kV) (ks.map .k)
  | [] => .nil
  | _ :: ks => .cons rfl (tks_keys ks)
theorem first_snoc (x : Tk) : ∀ (l : List Tk) (sn : List Tk), firstTk sn (l ++ [x]) = match firstTk sn l with
    | some u => some u
    | none => if x ∈ sn ∨ x ∈ l then some x else none
  | [], sn => by
    show (if x ∈ sn then some x else none) = if x ∈ sn ∨ x ∈ [] then some x else none
    simp
  | t :: l, sn => by
    show (if t ∈ sn then some t else firstTk (t :: sn) (l ++ [x])) = _
    conv => rhs; unfold firstTk
    by_cases h : t ∈ sn
    · rw [if_pos h, if_pos h]
    · rw [if_neg h, if_neg h, first_snoc x l (t :: sn)]
      cases firstTk (t :: sn) l with
      | some u => rfl
      | none =>
        have e : (x ∈ t :: sn ∨ x ∈ l) ↔ (x ∈ sn ∨ x ∈ t :: l) := by
          simp only [List.mem_cons]
          exact ⟨fun h => h.elim (fun h => h.elim (fun z => .inr (.inl z)) .inl) fun z => .inr (.inr z), fun h => h.elim (fun z => .inl (.inr z)) fun h => h.elim (fun z => .inl (.inl z)) .inr⟩
        show (if x ∈ t :: sn ∨ x ∈ l then some x else none) = if x ∈ sn ∨ x ∈ t :: l then some x else none
        by_cases h2 : x ∈ t :: sn ∨ x ∈ l
        · rw [if_pos h2, if_pos (e.mp h2)]
        · rw [if_neg h2, if_neg fun z => h2 (e.mpr z)]
/-- the list of what stood ahead: its first -/
def HeadIs (K : PySem.W.Frag) (H : Hp) (o : Option Tk) (acc : List V) : Prop := match o with
  | none => acc = []
  | some t => ∃ v r, acc = v :: r ∧ IsTk K H v t
theorem HeadIs.mono {K : PySem.W.Frag} {H H' : Hp} {o : Option Tk} {acc : List V} (h : HeadIs K H o acc) (e : Evl.Ex H H') : HeadIs K H' o acc := by
  cases o with
  | none => exact h
  | some t =>
    obtain ⟨v, r, h1, h2⟩ := h
    exact ⟨v, r, h1, h2.mono e⟩
theorem head_step {K : PySem.W.Frag} {H : Hp} {us : List Tk} {t : Nat} {u : Tk} {x : V} {acc : List V} (hu : us[t]? = some u) (hx : IsTk K H x u) (h : HeadIs K H (firstTk [] (us.take t)) acc) :
    HeadIs K H (firstTk [] (us.take (t + 1))) (if decide (u ∈ us.take t) = true then acc ++ [x] else acc) := by
  have e : us.take (t + 1) = us.take t ++ [u] := by rw [List.take_succ, hu]; rfl
  rw [e, first_snoc]
  cases hf : firstTk [] (us.take t) with
  | some w =>
    rw [hf] at h
    obtain ⟨v, r, rfl, hv⟩ := h
    dsimp only
    by_cases hm : u ∈ us.take t
    · rw [if_pos (decide_eq_true hm)]
      exact ⟨v, r ++ [x], rfl, hv⟩
    · rw [decide_eq_false hm, if_neg Bool.false_ne_true]
      exact ⟨v, r, rfl, hv⟩
  | none =>
    rw [hf] at h
    obtain rfl : acc = [] := h
    dsimp only
    by_cases hm : u ∈ us.take t
    · rw [if_pos (decide_eq_true hm), if_pos (.inr hm)]
      exact ⟨x, [], rfl, hx⟩
    · rw [decide_eq_false hm, if_neg Bool.false_ne_true, if_neg (by simp [hm])]
      exact rfl
theorem first_mem : ∀ {l sn : List Tk} {t : Tk}, firstTk sn l = some t → t ∈ l
  | [], _, _, h => nomatch h
  | x :: l, sn, t, h => by
    unfold firstTk at h
    by_cases hx : x ∈ sn
    · rw [if_pos hx] at h
      rw [Option.some.inj h]
      exact List.mem_cons_self ..
    · rw [if_neg hx] at h
      exact List.mem_cons_of_mem _ (first_mem h)
def TupS (ss : List Str) : Wd := fun v G => ∃ a, v = .ref a ∧ G a = some (.tup (ss.map V.str))
theorem mon_tupS {ss : List Str} : Mon (TupS ss) := fun v G G' e h => by
  obtain ⟨a, rfl, h⟩ := h
  exact ⟨a, rfl, e _ _ h⟩
theorem alls_tks {K : PySem.W.Frag} {G : Hp} : ∀ {sss : List (List Str)} {vs : List V}, Alls (sss.map TupS) vs G → Tks K G vs (sss.map .t)
  | [], _, .nil => .nil
  | _ :: _, _, .cons h r => .cons h (alls_tks r)
/-- one of the three lists -/
def SomeW (K : PySem.W.Frag) : Wd := fun v G => ∃ a xs ts, v = .ref a ∧ G a = some (.lst xs) ∧ Tks K G xs ts ∧ (ts = tksI ∨ ts = tksS ∨ ts = tksT)
theorem mon_some {K : PySem.W.Frag} : Mon (SomeW K) := fun v G G' e h => by
  obtain ⟨a, xs, ts, rfl, h1, h2, h3⟩ := h
  exact ⟨a, xs, ts, rfl, e _ _ h1, h2.mono e, h3⟩
/-- what the three lists keep -/
theorem some_ok {ts : List Tk} (h : ts = tksI ∨ ts = tksS ∨ ts = tksT) : (∀ t ∈ ts, t ∈ allTk) ∧ 0 < ts.length ∧ ts.length ≤ 4 ∧ firstTk [] ts = none := by
  rcases h with rfl | rfl | rfl <;> decide +kernel
theorem all_ok : ∀ t ∈ allTk, tkOk t := by
  intro t ht
  simp only [allTk, tksI, tksS, tksT, List.cons_append, List.nil_append, List.mem_cons, List.not_mem_nil, or_false] at ht
  rcases ht with rfl | rfl | rfl | rfl | rfl | rfl | rfl | rfl | rfl | rfl | rfl
  · exact True.intro
  · exact True.intro
  · exact True.intro
  · exact True.intro
  · exact ⟨by decide, by decide +kernel⟩
  · exact ⟨by decide, by decide +kernel⟩
  · exact ⟨by decide, by decide +kernel⟩
  all_goals exact ⟨by decide, by decide +kernel⟩
theorem sort_ok {ts us : List Tk} (h : ts = tksI ∨ ts = tksS ∨ ts = tksT) (hu : ∀ u ∈ us, u ∈ ts) : SortTk us := by
  have keys : ∀ {us : List Tk}, (∀ u ∈ us, ∃ key, u = Tk.k key) → ∃ ks : List Key, us = ks.map .k := fun {us} h => by
    induction us with
    | nil => exact ⟨[], rfl⟩
    | cons u us ih =>
      obtain ⟨ks, e⟩ := ih fun y hy => h y (List.mem_cons_of_mem _ hy)
      obtain ⟨key, e2⟩ := h u (List.mem_cons_self ..)
      exact ⟨key :: ks, by rw [e, e2]; rfl⟩
  have tups : ∀ {us : List Tk}, (∀ u ∈ us, ∃ ss, u = Tk.t ss) → ∃ sss : List (List Str), us = sss.map .t := fun {us} h => by
    induction us with
    | nil => exact ⟨[], rfl⟩
    | cons u us ih =>
      obtain ⟨ks, e⟩ := ih fun y hy => h y (List.mem_cons_of_mem _ hy)
      obtain ⟨ss, e2⟩ := h u (List.mem_cons_self ..)
      exact ⟨ss :: ks, by rw [e, e2]; rfl⟩
  rcases h with rfl | rfl | rfl
  · refine .inl (keys fun u hm => ?_)
    have z := hu u hm
    simp only [tksI, List.mem_cons, List.not_mem_nil, or_false] at z
    rcases z with rfl | rfl | rfl | rfl <;> exact ⟨_, rfl⟩
  · refine .inl (keys fun u hm => ?_)
    have z := hu u hm
    simp only [tksS, List.mem_cons, List.not_mem_nil, or_false] at z
    rcases z with rfl | rfl | rfl <;> exact ⟨_, rfl⟩
  · obtain ⟨sss, e⟩ := tups (us := us) fun u hm => by
      have z := hu u hm
      simp only [tksT, List.mem_cons, List.not_mem_nil, or_false] at z
      rcases z with rfl | rfl | rfl | rfl <;> exact ⟨_, rfl⟩
    subst e
    refine .inr ⟨sss, [["a"], ["b", "a"], [], ["a", "b"]], rfl, by decide, by decide, fun ss hs => ?_⟩
    have z := hu (.t ss) (List.mem_map.mpr ⟨ss, hs, rfl⟩)
    simp only [tksT, List.mem_cons, List.not_mem_nil, or_false, Tk.t.injEq] at z
    simpa using z
theorem cut_take {xs : List V} {t : Nat} (h : t ≤ xs.length) : cutV xs none (some (t : Int)) = xs.take t := by
  unfold cutV
  rw [HT.sIx_none, HT.sIx_nat, List.drop_zero, Nat.sub_zero, Nat.min_eq_left h]
theorem tabs_nl {T : List (Addr × Str)} {H H' : Hp} (h : Tabs T H) (k : ∀ b o, H b = some o → (∀ xs, o ≠ .lst xs) → H' b = some o) : Tabs T H' := fun q hq => by
  obtain ⟨ps, h1, h2, h3⟩ := h q hq
  refine ⟨ps, k _ _ h1 (fun ys z => nomatch z), h2, fun pos cv hc => ?_⟩
  obtain ⟨c, e1, e2⟩ := h3 pos cv hc
  exact ⟨c, e1, k _ _ e2 fun ys => codeO_lst⟩
/-! the cells -/
def cellsS : List (List Str) := [[], ["a"], ["b"], ["z9"], ["a", "b"], ["a", "z9"], ["b", "c"], ["a", "b", "c"]]
def cellA (i : Fin 8) : List Str := cellsS.getD i.val []
def keyA (i : Fin 8) : PyData := .tuple [.int (((cellA i).map V.str).length : Int), .tuple ((cellA i).map .str)]
def dCells : List PyData := cellsS.map fun ss => .tuple (ss.map .str)
def all8 : List (Fin 8) := [0, 1, 2, 3, 4, 5, 6, 7]
open PySem.W (AllAlike Sortable dataLe)
theorem key_le : ∀ i j : Fin 8, dataLe false keyA i j = decide (i ≤ j) := by decide +kernel
theorem key_alike : ∀ i j : Fin 8, PySem.W.alike (keyA i) (keyA j) = true := by decide +kernel
theorem key_deep : ∀ i : Fin 8, (keyA i).depth ≤ 10 := by decide +kernel
theorem cell_len : ∀ i : Fin 8, (cellA i).length ≤ 3 := by decide +kernel
theorem sort8 {br : List (Fin 8)} (h : br.Perm all8) : br.mergeSort (dataLe false keyA) = all8 := by
  have e : dataLe false keyA = fun i j => decide (i ≤ j) := by
    funext i j
    exact key_le i j
  rw [e]
  have h1 : (br.mergeSort fun i j => decide (i ≤ j)).Pairwise fun a b => (decide (a ≤ b)) = true := List.pairwise_mergeSort (fun a b c h1 h2 => by
    simp only [decide_eq_true_eq] at *
    exact Nat.le_trans h1 h2) (fun a b => by
    simp only [Bool.or_eq_true, decide_eq_true_eq]
    exact Nat.le_total _ _) _
  have h2 : (br.mergeSort fun i j => decide (i ≤ j)).Perm all8 := (List.mergeSort_perm _ _).trans h
  exact h2.eq_of_pairwise (fun a b _ _ h1 h2 => by
    simp only [decide_eq_true_eq] at h1 h2
    exact Fin.le_antisymm h1 h2) h1 (by decide +kernel)
theorem alls8 {vs : List V} {G : Hp} (h : Alls (cellsS.map TupS) vs G) : ∃ ad : Fin 8 → Addr, vs = all8.map (fun i => V.ref (ad i)) ∧ ∀ i, G (ad i) = some (.tup ((cellA i).map V.str)) := by
  have at_ : ∀ i : Fin 8, ∃ a, vs[i.val]? = some (V.ref a) ∧ G a = some (.tup ((cellA i).map V.str)) := fun i => by
    have e : (cellsS.map TupS)[i.val]? = some (TupS (cellA i)) := by
      rw [List.getElem?_map, List.getElem?_eq_getElem (show i.val < cellsS.length from i.isLt)]
      unfold cellA
      rw [List.getD_eq_getElem?_getD, List.getElem?_eq_getElem (show i.val < cellsS.length from i.isLt)]
      rfl
    obtain ⟨v, hv, a, rfl, ha⟩ := h.get e
    exact ⟨a, hv, ha⟩
  refine ⟨fun i => (at_ i).choose, ?_, fun i => (at_ i).choose_spec.2⟩
  have hl : vs.length = 8 := h.length
  refine List.ext_getElem? fun i => ?_
  by_cases hi : i < 8
  · have z := (at_ ⟨i, hi⟩).choose_spec.1
    rw [show vs[i]? = _ from z, List.getElem?_map]
    have e8 : all8[i]? = some (⟨i, hi⟩ : Fin 8) := by
      have : ∀ j : Fin 8, all8[j.val]? = some j := by decide +kernel
      exact this ⟨i, hi⟩
    rw [e8]
    rfl
  · rw [List.getElem?_eq_none (by omega), List.getElem?_eq_none (by rw [List.length_map]; show 8 ≤ i; omega)]
theorem dp_cells {K : PySem.W.Frag} {G : Hp} {ad : Fin 8 → Addr} (h : ∀ i, G (ad i) = some (.tup ((cellA i).map V.str))) : DpAll K G (all8.map fun i => V.ref (ad i)) dCells :=
  have one : ∀ i : Fin 8, Dp K G (V.ref (ad i)) (.tuple ((cellA i).map .str)) := fun i => .tup (Evl.st_of (h i)) (dp_strs _)
  .cons (one 0) (.cons (one 1) (.cons (one 2) (.cons (one 3) (.cons (one 4) (.cons (one 5) (.cons (one 6) (.cons (one 7) .nil)))))))
theorem d_cells : SeqAt.shaped (.list dCells) = true ∧ PyData.canLay0 (.list dCells) = true := by decide +kernel
theorem all8_len {br : List (Fin 8)} (h : br.Perm all8) : br.length = 8 := h.length_eq
theorem cons_erase {α : Type} : ∀ (l : List α) (k : Nat) (h : k < l.length), (l[k] :: l.eraseIdx k).Perm l
  | [], _, h => absurd h (Nat.not_lt_zero _)
  | _ :: _, 0, _ => List.Perm.refl _
  | x :: l, k + 1, h => by
    have h' : k < l.length := Nat.lt_of_succ_lt_succ h
    show (l[k] :: x :: l.eraseIdx k).Perm (x :: l)
    exact (List.Perm.swap x l[k] _).trans ((cons_erase l k h').cons x)
theorem pick_perm {br bl : List (Fin 8)} {k : Nat} (hk : k < bl.length) : (br ++ [bl[k]] ++ bl.eraseIdx k).Perm (br ++ bl) := by
  rw [List.append_assoc]
  exact List.Perm.append_left _ (cons_erase bl k hk)
end K01
namespace BW
open PySem PySem.Spec PyProof.Rows L2
open PySem.W (AllAlike Sortable dataLe)
/-- sorted(l, key=f), f a def of the text; which items, told by numbers below n -/
def rSortF (n : Nat) (sp : Sp) (K : PySem.W.Frag) (f : Addr) : List V → List V → Hp → VK → Prop := fun vs zs H Q => ∃ (l : Addr) (ad : Fin n → Addr) (k : Fin n → PyData) (bs : List (Fin n)), vs = [.ref l] ∧ zs = [.ref f] ∧ SqL K H l (bs.map fun b => V.ref (ad b)) ∧ bs.length ≤ 1000 ∧
  AllAlike (bs.map k) ∧ Sortable (bs.map k) ∧ (∀ d ∈ bs.map k, d.depth ≤ 10) ∧ (∀ b ∈ bs, ∀ H1, Evl.Ex H H1 → ∀ Q : VK, (∀ v H2, Evl.Ex H1 H2 → Dp K H2 v (k b) → Q v H2) → sp [V.ref (ad b)] H1 Q E0) ∧
  ∀ p H', H p = none → Evl.Ex H H' → H' p = some (.lst ((bs.mergeSort (dataLe false k)).map fun b => V.ref (ad b))) → Q (.ref p) H'
theorem cr_sortF {X : Cx} {n j : Nat} {f : Addr} {fd : FuncData} {nm : Str} {sp : Sp} (F : FnOk X.prog X.w X.K X.mg X.base CX0 j f fd [nm] sp) (hb : Binds X.K fd [nm] []) (hr : Room (j + 2) X.A) : CallRK X (.builtin "sorted") [Str.ofString "key"] (rSortF n sp X.K f) := by
  intro pins s σ H xs zs us ws Q I rx rz h
  obtain ⟨l, ad, k, bs, rfl, rfl, hl, hL, hal, hk, hd, turn, q⟩ := h
  obtain ⟨u, rfl, ru⟩ := rx.one
  obtain ⟨z, rfl, rz'⟩ := rz.one
  obtain rfl : u = .ref l := ru
  obtain rfl : z = .ref f := rz'
  refine run_sortF I F hb hr hl hL hal hk (fun d hm => ?_) turn q
  have h1 := hd d hm
  have h2 := hr.un
  show X.A.units + 2 + d.depth < cLine
  omega
def rLenK (K : PySem.W.Frag) : List V → Hp → VK → Prop := fun xs H Q => ∃ p ys, xs = [.ref p] ∧ (SqL K H p ys ∨ SqT K H p ys) ∧ Q (.int ys.length) H
end BW
namespace K01
open PySem PySem.Spec PyProof.Rows L2 BW LamX
abbrev sLaw : Stmt := topS 32
def nLaw : List Str := ["_law_script", "_law_store_here", "_law_turn", "_law_least", "_law_most", "_law_some", "_law_row", "_law_again", "_law_one", "_law_at", "_law_cells", "_law_left", "_law_mixed"]
theorem r65 {k : Nat} {A : Around} (r : Room k A) : A.units + 65 < cLine := by have := r.un; omega
section
variable {P : Program} {w : World} {K : PySem.W.Frag} {mg : Str → Option Value} {base : Heap} {CB : Addr}
theorem sc_law : FnScope nLaw ["_law_script"] (defScope sLaw) := ⟨rfl, rfl, rfl, by decide +kernel, rfl, by decide +kernel, by decide +kernel⟩
end
/-- what law calls -/
structure Lw (P : Program) (w : World) (K : PySem.W.Frag) (mg : Str → Option Value) (base : Heap) (k : Nat) (TT : List (Addr × Str)) : Prop where
  tx : Tx mg
  me : mg "enumerate" = none
  mso : mg "sorted" = none
  S : ∃ f fd, Df P w K mg base (k + 6) "_law_store" ["_law_script"] (spStore K) f fd
  N : ∃ f fd, Df P w K mg base (k + 6) "_law_next" ["_law_store_here", "_law_many"] spNext f fd
  V : ∃ f fd, Df P w K mg base (k + 6) "_law_value" ["_law_store_here"] spValue f fd
  R : ∃ f fd, Df P w K mg base (k + 6) "_law_value_right" ["_law_value_here", "_law_least", "_law_most"] spVR f fd
  FT : ∃ f fd, Df P w K mg base (k + 6) "first_twice" ["values"] (spFirst K) f fd ∧ KBn K fd ["values"] 0 ["values"] (fun _ ws => ws) (fun _ zs => zs)
  CK : ∃ f fd, Df P w K mg base (k + 4) "cell_key" ["cell"] (spKey K) f fd
  WR : ∃ f fd, Df P w K mg base (k + 6) "_law_words_right" ["_law_store_here"] (spWords TT) f fd
def spLaw (K : PySem.W.Frag) (TT : List (Addr × Str)) : Sp := fun vs H Q _ => ∃ (a : Addr) (ns : List Int), vs = [.ref a] ∧ SqL K H a (ns.map V.int) ∧ ns.length ≤ 63 ∧ Tabs TT H ∧ ∀ H', Q (.bl true) H'
section
variable {P : Program} {w : World} {K : PySem.W.Frag} {mg : Str → Option Value} {base : Heap} {CB : Addr}
theorem erase_map {α β : Type} (f : α → β) : ∀ (l : List α) (k : Nat), (l.map f).eraseIdx k = (l.eraseIdx k).map f
  | [], _ => rfl
  | _ :: _, 0 => rfl
  | x :: l, k + 1 => congrArg (f x :: ·) (erase_map f l k)
theorem ok_law {f : Addr} {fd : FuncData} {k : Nat} {TT : List (Addr × Str)} (L : Lw P w K mg base k TT) (F : Fun K "law" "law" sLaw f fd) : FnOk P w K mg base CX0 (k + 7) f fd ["_law_script"] (spLaw K TT) := by
  obtain ⟨fS, dS, S⟩ := L.S
  obtain ⟨fN, dN, N⟩ := L.N
  obtain ⟨fV, dV, Vl⟩ := L.V
  obtain ⟨fR, dR, R⟩ := L.R
  obtain ⟨fF, dF, FT, bFT⟩ := L.FT
  obtain ⟨fC, dC, CK⟩ := L.CK
  obtain ⟨fW, dW, WR⟩ := L.WR
  have T := L.tx
  refine F.ok sc_law (fun vs H Q E h => ?_) (fun cdv A outer s H vs Q E hr h => ?_)
  · obtain ⟨a, ns, rfl, _⟩ := h
    rfl
  · obtain ⟨a, ns, rfl, hA, hns, hT, q⟩ := h
    have nd := sc_law.nd
    refine ⟨_, pss_cons (ps_set (i := 1) nd rfl (.inr rfl) (pe_df S hr (pa_cons (pv 0) pa_nil)))
      (pss_cons (ps_for PassesOwn.never rfl (pi_range1 (by rfl) T.rng (pa_cons pe_int pa_nil)) (pg_name (i := 2) nd rfl (.inl rfl))
        (pss_cons (ps_set (i := 3) nd rfl (.inl rfl) (pe_ix ix_list (pe_lst (pa_cons pe_non (pa_cons pe_int (pa_cons (pe_op op_sub (pe_df N hr (pa_cons (pv 1) (pa_cons pe_int pa_nil))) pe_int) (pa_cons (pe_un un_neg (pe_op op_pow pe_int pe_int)) pa_nil))))) (pe_df N hr (pa_cons (pv 1) (pa_cons pe_int pa_nil))) (fun _ _ => rfl)))
        (pss_cons (ps_set (i := 4) nd rfl (.inl rfl) (pe_ix ix_list (pe_lst (pa_cons pe_non (pa_cons pe_int (pa_cons (pe_op op_sub (pe_df N hr (pa_cons (pv 1) (pa_cons pe_int pa_nil))) pe_int) (pa_cons (pe_op op_pow pe_int pe_int) pa_nil))))) (pe_df N hr (pa_cons (pv 1) (pa_cons pe_int pa_nil))) (fun _ _ => rfl)))
        (pss_one (ps_if (pt_not (pt_val (pe_df R hr (pa_cons (pe_df Vl hr (pa_cons (pv 1) pa_nil)) (pa_cons (pv 3) (pa_cons (pv 4) pa_nil)))))) (pss_one (ps_ret pe_bl)) pss_nil)))))
      (pss_cons (ps_set (i := 5) nd rfl (.inr rfl) (pe_ix ix_list (pe_lst (pa_cons (pe_lst (pa_cons pe_int (pa_cons pe_int (pa_cons (pe_un un_neg pe_int) (pa_cons pe_int pa_nil))))) (pa_cons (pe_lst (pa_cons pe_str (pa_cons pe_str (pa_cons pe_str pa_nil))))
          (pa_cons (pe_lst (pa_cons (pe_tup (pa_cons pe_str pa_nil)) (pa_cons (pe_tup (pa_cons pe_str (pa_cons pe_str pa_nil))) (pa_cons (pe_tup pa_nil) (pa_cons (pe_tup (pa_cons pe_str (pa_cons pe_str pa_nil))) pa_nil))))) pa_nil)))) (pe_df N hr (pa_cons (pv 1) (pa_cons pe_int pa_nil))) (fun _ _ => rfl)))
      (pss_cons (ps_set (i := 6) nd rfl (.inr rfl) (pe_lc (own := [("_law_at", 9)]) (g := gName 9) (tt := tYes) rfl nd (pi_range1 (by rfl) T.rng (pa_cons (pe_df N hr (pa_cons (pv 1) (pa_cons pe_int pa_nil))) pa_nil))
          (blkOk_by (N := nLaw) (sc := defScope sLaw) (by decide +kernel)) (fun _ _ _ _ _ => pg_name (i := 9) nd rfl (Or.inl rfl)) (fun _ _ _ _ _ => pts_nil)
          (fun _ _ _ _ _ => pe_ix (show IxR _ (rIxL K) from ix_list) (pv 5) (pe_df N hr (pa_cons (pv 1) (pa_cons (pe_callB (show CallR _ _ (rLenK K) from call_len_seq) (by rfl) T.len PySem.boot_len (pa_cons (pv 5) pa_nil)) pa_nil))) (fun _ _ => rfl))))
      (pss_cons (ps_setLc (i := 7) (own := [("_law_at", 9), ("_law_one", 8)]) (g := gTup K 2 (gCons (gName 9) (gCons (gName 8) gNil))) rfl nd rfl rfl (sw_true rfl rfl rfl (by decide +kernel)) (pi_enum (by rfl) L.me (pa_cons (pv 6) pa_nil))
          (blkOk_by (N := nLaw) (sc := defScope sLaw) (by decide +kernel)) (fun _ _ _ _ _ => pg_tup rfl (pgs_cons (pg_name (i := 9) nd rfl (Or.inl rfl)) (pgs_cons (pg_name (i := 8) nd rfl (Or.inl rfl)) pgs_nil)))
          (fun _ _ _ _ _ => pts_one (pt_cmpR (show OpR _ _ (rInD K) from op_inD (r65 hr)) (pv 8) (pe_slice (show SlR _ (rSlL K) from sl_list) (pv 6) po_none (po_some (pv 9))) (by rfl)))
          (fun _ _ _ _ _ => pv 8))
      (pss_cons (ps_if (PW.pt (pw_or (pt_cmpR (op_neD hr.units) (pe_dfk FT bFT hr (pk_cons (pv 6) pk_nil)) (pe_ifExp (pt_cmpR (op_neD hr.units) (pv 7) (pe_lst pa_nil) (nomark _)) (pe_ix ix_list (pv 7) pe_int (fun _ _ => rfl)) pe_non) (nomark _))
          (pw_or (pt_cmpR op_notN (pe_df FT hr (pa_cons (pv 5) pa_nil)) pe_non (nomark _)) (pw_or1 (pt_cmpR op_notN (pe_df FT hr (pa_cons (pe_tup pa_nil) pa_nil)) pe_non (nomark _)))))) (pss_one (ps_ret pe_bl)) pss_nil)
      (pss_cons (ps_set (i := 10) nd rfl (.inl rfl) (pe_lst (pa_cons (pe_tup pa_nil) (pa_cons (pe_tup (pa_cons pe_str pa_nil)) (pa_cons (pe_tup (pa_cons pe_str pa_nil)) (pa_cons (pe_tup (pa_cons pe_str pa_nil)) (pa_cons (pe_tup (pa_cons pe_str (pa_cons pe_str pa_nil)))
          (pa_cons (pe_tup (pa_cons pe_str (pa_cons pe_str pa_nil))) (pa_cons (pe_tup (pa_cons pe_str (pa_cons pe_str pa_nil))) (pa_cons (pe_tup (pa_cons pe_str (pa_cons pe_str (pa_cons pe_str pa_nil)))) pa_nil))))))))))
      (pss_cons (ps_par (i := 11) (j := 12) (by rfl) nd rfl rfl (by decide) rfl rfl (pa_cons (pe_callTy call_list_of (by rfl) T.list (by decide +kernel) (pa_cons (pv 10) pa_nil)) (pa_cons (pe_lst pa_nil) pa_nil)) (by rfl))
      (pss_cons (ps_for PassesOwn.never rfl (pi_range1 (by rfl) T.rng (pa_cons (pe_callB call_len_seq (by rfl) T.len PySem.boot_len (pa_cons (pv 10) pa_nil)) pa_nil)) (pg_name (i := 2) nd rfl (.inl rfl))
        (pss_one (ps_expr (pe_bm PySem.F.plainAttrs_list PySem.F.slot_list_append PySem.F.type_list_append mt_append (pv 12) (pa_cons (pe_bm PySem.F.plainAttrs_list PySem.F.slot_list_pop PySem.F.type_list_pop mt_popAt (pv 11) (pa_cons (pe_df N hr (pa_cons (pv 1) (pa_cons (pe_callB call_len_seq (by rfl) T.len PySem.boot_len (pa_cons (pv 11) pa_nil)) pa_nil))) pa_nil)) pa_nil)))))
      (pss_one (ps_ret (pe_and (pe_cmpR (op_eqD hr.units) (pe_callBK (ks := [Str.ofString "key"]) (r := rSortF 8 (spKey K) K fC) (cr_sortF CK.ok CK.b hr) (by rfl) L.mso (by decide +kernel) (pa_cons (pv 12) pa_nil) (pk_cons (pe_glob (v := .ref fC) (by rfl) CK.g rfl) pk_nil)) (pv 10) (nomark _))
        (pe_one (pe_df WR hr (pa_cons (pv 1) pa_nil)))))))))))))), ?_⟩
    -- the pen
    refine ⟨.ref a, rfl, a, ns, rfl, hA, hns, fun p L H1 e1 np hP => ?_⟩
    have T1 : Tabs TT H1 := hT.ext e1
    have mNb : Mon (fun v _ => noB v) := fun _ _ _ _ h => h
    -- twelve values
    refine Evl.q_forR1 (n := 12) (Evl.ea_cons Evl.ev_c Evl.ea_nil) (by decide) (fun i σ' G => ∃ o2 o3 o4, σ' = [some (.ref a), some (.ref p), o2, o3, o4, none, none, none, none, none, none, none, none] ∧ Kp p H1 G ∧ PenL G p L (40 * i))
      (fun G e => ⟨none, none, none, rfl, Same.kp e, hP.same e⟩) (fun i σ' G hi hv => ?_) (fun σ' G hv => ?_)
    · obtain ⟨o2, o3, o4, rfl, kG, pG⟩ := hv
      have nb : ∀ {σ : L2.St} {H : Hp} {i : Int}, Evd p L (tC (.int i)) σ H 0 (fun v _ => noB v) := fun {σ H i} => ed_c fun _ => .inr ⟨i, rfl⟩
      have dif : ∀ {σ : L2.St} {H : Hp}, σ[1]? = some (some (.ref p)) → Evd p L (tOp (rI0 fun i j => .int (i - j)) (tCall spNext [] E0 (tCons (tVar 1) (tCons (tC (.int 9)) tNil))) (tC (.int 4))) σ H 1 (fun v _ => noB v) := fun {σ H} hσ =>
        ed_op (m := 1) (m' := 0) mon_lt (ed_nextC hσ (by decide) (by decide)) (ed_c (v := .int 4) (P := fun v _ => v = .int 4) fun _ => rfl) fun x y H1 _ hx hy => by
          obtain ⟨r, rfl, _, _⟩ := hx
          subst hy
          exact ⟨_, Evl.rv_I0, fun G => .inr ⟨_, rfl⟩⟩
      refine q_asgD (ed_pick (N := 4) (m := 1) (m' := 1) (P := fun v _ => noB v) mNb (by decide) (eda_cons mNb (ed_c fun _ => .inl rfl) (eda_cons mNb nb (eda_cons (m := 1) (m' := 0) mNb (dif rfl) (eda_cons mNb
        (ed_of (fun H1 _ => Evl.ev_un (Evl.ev_op Evl.ev_c Evl.ev_c (Evl.rv_I ⟨by decide, by decide, by decide⟩)) (fun H2 _ Q q => ⟨_, rfl, q H2 (Evl.Ex.refl H2)⟩)) fun _ => .inr ⟨_, rfl⟩) eda_nil)))) (ed_nextC (M := 4) rfl (by decide) (by decide))) pG (by omega) fun lo G1 k1 p1 hlo => ?_
      refine q_asgD (ed_pick (N := 4) (m := 1) (m' := 1) (P := fun v _ => noB v) mNb (by decide) (eda_cons mNb (ed_c fun _ => .inl rfl) (eda_cons mNb nb (eda_cons (m := 1) (m' := 0) mNb (dif rfl) (eda_cons mNb
        (ed_of (fun H1 _ => Evl.ev_op Evl.ev_c Evl.ev_c (Evl.rv_I ⟨by decide, by decide, by decide⟩)) fun _ => .inr ⟨_, rfl⟩) eda_nil)))) (ed_nextC (M := 4) rfl (by decide) (by decide))) p1 (by omega) fun hi_ G2 k2 p2 hhi => ?_
      refine s_whenD (m := 30) (p := p) (L := L) (fun H5 k5 n5 p5 hn5 Q5 q5 => ⟨.ref p, rfl, p, L, n5, rfl, p5, hn5, fun v H6 sv k6 p6 => ?_⟩) p2 (by omega) fun H5 k5 p5 => ⟨_, _, _, rfl, ((kG.trans k1).trans k2).trans k5, p5.up (by omega)⟩
      obtain ⟨o, hs, hok⟩ := sv
      exact ⟨lo, rfl, hi_, rfl, v, lo, hi_, o, rfl, hs.mono (hide_sub p H6), hok, hlo, hhi, fun H7 e7 => q5 _ H7 (k6.trans (Same.kp e7)) (p6.same e7) rfl⟩
    obtain ⟨o2, o3, o4, rfl, kG, pG⟩ := hv
    -- one of three lists
    refine q_asgD (ed_pick (N := 3) (m := 0) (m' := 1) (P := SomeW K) mon_some (by decide) (eda_cons mon_some (Evd.imp (ed_ofL (xs := ([Sum.inl 0, Sum.inl 1, Sum.inl (-2), Sum.inl 3] : List Key).map kV) fun H1 => Evl.el_lst (Evl.ea_cons Evl.ev_c (Evl.ea_cons Evl.ev_c (Evl.ea_cons (Evl.ev_un Evl.ev_c Evl.ru_neg) (Evl.ea_cons Evl.ev_c Evl.ea_nil)))) (by show 4 ≤ 100000; decide)) fun v G h => ?_)
      (eda_cons mon_some (Evd.imp (ed_ofL (xs := ([Sum.inr "a", Sum.inr "b", Sum.inr "a1"] : List Key).map kV) fun H1 => Evl.el_lst (Evl.ea_cons Evl.ev_c (Evl.ea_cons Evl.ev_c (Evl.ea_cons Evl.ev_c Evl.ea_nil))) (by show 3 ≤ 100000; decide)) fun v G h => ?_)
      (eda_cons mon_some (Evd.imp (ed_lstO (Ps := ([["a"], ["b", "a"], [], ["a", "b"]] : List (List Str)).map TupS) (fun P hP => ?_) (by decide) (eds_cons mon_tupS (ed_ofU (xs := (["a"] : List Str).map V.str) fun H1 => Evl.eu_tup (Evl.ea_cons Evl.ev_c Evl.ea_nil) (by show 1 ≤ 100000; decide))
        (eds_cons mon_tupS (ed_ofU (xs := (["b", "a"] : List Str).map V.str) fun H1 => Evl.eu_tup (Evl.ea_cons Evl.ev_c (Evl.ea_cons Evl.ev_c Evl.ea_nil)) (by show 2 ≤ 100000; decide)) (eds_cons mon_tupS (ed_ofU (xs := ([] : List Str).map V.str) fun H1 => Evl.eu_tup Evl.ea_nil (by show 0 ≤ 100000; decide))
        (eds_cons mon_tupS (ed_ofU (xs := (["a", "b"] : List Str).map V.str) fun H1 => Evl.eu_tup (Evl.ea_cons Evl.ev_c (Evl.ea_cons Evl.ev_c Evl.ea_nil)) (by show 2 ≤ 100000; decide)) eds_nil))))) fun v G h => ?_) eda_nil))) (ed_nextC (M := 3) rfl (by decide) (by decide))) pG (by omega) fun v H2 k2 p2 hv => ?_
    · obtain ⟨b, rfl, hb⟩ := h
      exact ⟨b, _, _, rfl, hb, tks_keys _, .inl rfl⟩
    · obtain ⟨b, rfl, hb⟩ := h
      exact ⟨b, _, _, rfl, hb, tks_keys _, .inr (.inl rfl)⟩
    · obtain ⟨ss, _, rfl⟩ := List.mem_map.mp hP
      exact mon_tupS
    · obtain ⟨b, vs, rfl, hb, al⟩ := h
      exact ⟨b, _, _, rfl, hb, alls_tks al, .inr (.inr rfl)⟩
    obtain ⟨b, xs, ts, rfl, hb, hts, hin⟩ := hv
    obtain ⟨oka, l0, l4, ft0⟩ := some_ok hin
    have hxl := hts.len
    have nbp := hide_ne hb
    -- the row
    refine q_asgD (ed_lcR (M := 5) (m := 1) (d := 1) (Pe := fun x => x ∈ xs) (by decide) (Evd.imp (ed_nextC (M := 6) rfl (by decide) (by decide)) fun v G h => by
        obtain ⟨r, e, r0, r1⟩ := h
        exact ⟨r, e, r0, by omega⟩) (fun _ => rfl) (fun x => ?_)) p2 (by omega) fun v H3 k3 p3 hv => ?_
    · intro G k n pn hn Q q
      have hbG : G b = some (.lst xs) := k _ _ nbp (hide_sub _ _ _ _ hb)
      refine ⟨.ref b, rfl, ?_⟩
      refine ed_next (m := 0) (M := (xs.length : Int)) (H := G) rfl (by omega) (ed_of (fun H1 kk => ev_lenR (K := K) (Evl.ev_var rfl) (.inl (Evl.sq_of (kk _ _ nbp hbG)))) (fun _ => ⟨_, rfl, by omega, Int.le_refl _⟩)) G (Kp.refl p G) n pn hn _ fun y G2 k2' p2' hy => ?_
      obtain ⟨r, rfl, r0, r1⟩ := hy
      have hi : r.toNat < xs.length := by omega
      have er : r = ((r.toNat : Nat) : Int) := by omega
      have z := atI_nat (xs := xs) (j := r.toNat) (List.getElem?_eq_getElem hi)
      rw [← er] at z
      exact ⟨b, xs, r, _, rfl, rfl, Evl.sq_of (k2' _ _ nbp hbG), z, q _ G2 k2' p2' (List.getElem_mem hi)⟩
    obtain ⟨c, row, rfl, hc, hcl, hce⟩ := hv
    have ncp := hide_ne hc
    obtain ⟨us, hus, hsub⟩ := (hts.mono (hide_kp k3)).pick hce
    have oku : ∀ u ∈ us, u ∈ allTk := fun u hu => oka u (hsub u hu)
    have hb3 : H3 b = some (.lst xs) := k3 _ _ nbp (hide_sub _ _ _ _ hb)
    have hc3 : H3 c = some (.lst row) := hide_sub _ _ _ _ hc
    have hts3 : Tks K H3 xs ts := (hts.mono (hide_kp k3)).mono (hide_sub p H3)
    have hus3 : Tks K H3 row us := hus.mono (hide_sub p H3)
    have hrl := hus3.len
    have T3 : Tabs TT H3 := by
      obtain ⟨ns1, n1, r1, z1, _⟩ := hP
      exact tabs_kp z1 T1 ((kG.trans k2).trans k3)
    -- what stood ahead
    refine q_asgN (en_lcV (K := K) (i := 9) (j := 8) (vs := [9, 8]) (fun t acc => HeadIs K H3 (firstTk [] (us.take t)) acc ∧ acc.length ≤ t ∧ ∃ as, Tks K H3 acc as ∧ ∀ z ∈ as, z ∈ allTk) (Evl.ev_var rfl) hc3 (by omega) (fun _ _ => rfl) (fun _ _ => rfl) ⟨rfl, Nat.le_refl _, [], .nil, fun _ h => nomatch h⟩ (fun t x acc hx hJ G1 e1 Q q => ?_) (fun _ _ h => h.2.1)) fun d again H4 nd4 e4 hd4 hJ => ?_
    · obtain ⟨u, hu, hxu⟩ := hus3.get hx
      refine ⟨x, rfl, .ref c, rfl, .int (t : Int), rfl, (t : Int), rfl, c, row, rfl, Evl.sq_of (e1 _ _ hc3), fun o no => ?_⟩
      have eo := Evl.Ex.new (o := .lst (cutV row none (some (t : Int)))) no
      have ecut : cutV row none (some (t : Int)) = row.take t := cut_take (by
        have := (List.getElem?_eq_some_iff.mp hx).1
        omega)
      have uall : u ∈ allTk := oku u (List.mem_of_getElem? hu)
      have utk : ∀ z ∈ us.take t, z ∈ allTk := fun z hz => oku z (List.mem_of_mem_take hz)
      obtain ⟨y1, y2⟩ := lay_tks utk
      have hD : DpAll K (upd G1 o (.lst (cutV row none (some (t : Int))))) (cutV row none (some (t : Int))) ((us.take t).map dT) := by
        rw [ecut]
        rw [ecut] at eo
        exact ((hus3.mono (e1.trans eo)).take t).dp
      refine ⟨dT u, (us.take t).map dT, dp_tk (hxu.mono (e1.trans eo)), .lst (Evl.sq_of upd_same) hD, dt_shaped u uall, shaped_of y1 y2, _, rfl, ?_⟩
      rw [any_tks utk uall]
      have key := head_step hu hxu hJ.1
      obtain ⟨as, ha1, ha2⟩ := hJ.2.2
      refine q _ _ eo ⟨key, ?_, ?_⟩
      · have := hJ.2.1
        split
        · rw [List.length_append]
          simp only [List.length_cons, List.length_nil]
          omega
        · omega
      · split
        · refine ⟨as ++ [u], Tks.snoc hxu ha1, fun z hz => ?_⟩
          rcases List.mem_append.mp hz with hz | hz
          · exact ha2 z hz
          · rw [List.mem_singleton.mp hz]
            exact uall
        · exact ⟨as, ha1, ha2⟩
    obtain ⟨hJ1, hJ2, as, ha1, ha2⟩ := hJ
    rw [hrl, List.take_length] at hJ1
    have hus4 := hus3.mono e4
    have hts4 := hts3.mono e4
    have hb4 := e4 _ _ hb3
    have hc4 := e4 _ _ hc3
    have sokU := sort_ok hin hsub
    have sokT : SortTk ts := sort_ok hin fun u hu => hu
    refine Evl.q_when (b := false) (Evl.et_or (a := false) (b := false) (Evl.et_test ?_) (fun _ => Evl.et_or (a := false) (b := false) (Evl.et_test (Evl.ev_is (Evl.ev_op (x := .non) (y := .non) (z := .bl (!decide (V.non = V.non))) ?_ Evl.ev_c fun G1 _ Q q => ⟨rfl, q G1 (Evl.Ex.refl G1)⟩) (by simp))) (fun _ => Evl.et_test (Evl.ev_is (Evl.ev_op (x := .non) (y := .non) (z := .bl (!decide (V.non = V.non))) ?_ Evl.ev_c fun G1 _ Q q => ⟨rfl, q G1 (Evl.Ex.refl G1)⟩) (by simp))))) (fun z => nomatch z) (fun _ H5 e5 => ?_)
    · -- the row
      intro G e Q q
      refine ⟨.ref c, rfl, rfl, rfl, c, row, us, rfl, .inl (e _ _ hc4), by omega, (hus4.mono e).at_, fun u hu => all_ok u (oku u hu), sokU, fun v G1 e1 ov => ?_⟩
      have hd1 : G1 d = some (.lst again) := e1 _ _ (e _ _ hd4)
      have ha3 := ha1.mono ((e4.trans e).trans e1)
      have hz : PyData.canLayAll0 (as.map dT) = true ∧ PyData.depthAll (as.map dT) ≤ 1 := lay_tks ha2
      have hJ1' : HeadIs K G1 (firstTk [] us) again := hJ1.mono ((e4.trans e).trans e1)
      refine ⟨.ref d, rfl, (by show 0 ≤ sizeLine; decide), fun o no => ?_⟩
      have eo := Evl.Ex.new (o := .lst []) no
      refine ⟨.list (as.map dT), .list [], .lst (Evl.sq_of (eo _ _ hd1)) (ha3.mono eo).dp, .lst (Evl.sq_of upd_same) .nil, shaped_of hz.1 hz.2, rfl, _, rfl, ?_⟩
      cases hf : firstTk [] us with
      | none =>
        rw [hf] at hJ1' ov
        obtain rfl : again = [] := hJ1'
        obtain rfl : as = [] := List.eq_nil_of_length_eq_zero ha3.len.symm
        obtain rfl : v = .non := ov
        refine iteF ?_
        exact ⟨.none, .none, .non, .non, rfl, rfl, q _ (e1.trans eo)⟩
      | some u =>
        rw [hf] at hJ1' ov
        obtain ⟨v', r, rfl, hv'⟩ := hJ1'
        have uall := oku u (first_mem hf)
        obtain ⟨y, ys, rfl⟩ : ∃ y ys, as = y :: ys := by
          cases ha3 with
          | cons h r => exact ⟨_, _, rfl⟩
        refine iteT ?_
        refine ⟨.ref d, rfl, d, v' :: r, 0, v', rfl, rfl, Evl.sq_of (eo _ _ hd1), atI_nat (j := 0) rfl, ?_⟩
        refine ⟨dT u, dT u, dp_tk ((show IsTk K G1 v u from ov).mono eo), dp_tk (hv'.mono eo), dt_shaped u uall, dt_shaped u uall, ?_⟩
        rw [PySem.SeqAt.eqv_refl _ (dt_lay u uall).1]
        exact q _ (e1.trans eo)
    · -- the list itself
      intro G e Q q
      refine ⟨.ref b, rfl, b, xs, ts, rfl, .inl (e _ _ hb4), by omega, (hts4.mono e).at_, fun u hu => all_ok u (oka u hu), sokT, fun v G1 e1 ov => ?_⟩
      rw [ft0] at ov
      obtain rfl : v = .non := ov
      exact q _ e1
    · -- ()
      intro G e Q q
      refine ⟨(by show 0 ≤ sizeLine; decide), fun o no => ⟨o, [], [], rfl, .inr upd_same, Nat.zero_le _, Tks.nil.at_, (fun _ h => nomatch h), .inl ⟨[], rfl⟩, fun v G1 e1 ov => ?_⟩⟩
      obtain rfl : v = .non := ov
      exact q _ ((Evl.Ex.new no).trans e1)
    -- the cells
    have p5 : PenL H5 p L 600 := ((p3.same e4).same e5).up (by omega)
    have T5 : Tabs TT H5 := (T3.ext e4).ext e5
    refine q_asgD (ed_lstO (Ps := cellsS.map TupS) (fun P hP => ?_) (by decide) (eds_cons mon_tupS (ed_ofU (xs := ([] : List Str).map V.str) fun H1 => Evl.eu_tup Evl.ea_nil (by show 0 ≤ 100000; decide))
        (eds_cons mon_tupS (ed_ofU (xs := (["a"] : List Str).map V.str) fun H1 => Evl.eu_tup (Evl.ea_cons Evl.ev_c Evl.ea_nil) (by show 1 ≤ 100000; decide))
        (eds_cons mon_tupS (ed_ofU (xs := (["b"] : List Str).map V.str) fun H1 => Evl.eu_tup (Evl.ea_cons Evl.ev_c Evl.ea_nil) (by show 1 ≤ 100000; decide))
        (eds_cons mon_tupS (ed_ofU (xs := (["z9"] : List Str).map V.str) fun H1 => Evl.eu_tup (Evl.ea_cons Evl.ev_c Evl.ea_nil) (by show 1 ≤ 100000; decide))
        (eds_cons mon_tupS (ed_ofU (xs := (["a", "b"] : List Str).map V.str) fun H1 => Evl.eu_tup (Evl.ea_cons Evl.ev_c (Evl.ea_cons Evl.ev_c Evl.ea_nil)) (by show 2 ≤ 100000; decide))
        (eds_cons mon_tupS (ed_ofU (xs := (["a", "z9"] : List Str).map V.str) fun H1 => Evl.eu_tup (Evl.ea_cons Evl.ev_c (Evl.ea_cons Evl.ev_c Evl.ea_nil)) (by show 2 ≤ 100000; decide))
        (eds_cons mon_tupS (ed_ofU (xs := (["b", "c"] : List Str).map V.str) fun H1 => Evl.eu_tup (Evl.ea_cons Evl.ev_c (Evl.ea_cons Evl.ev_c Evl.ea_nil)) (by show 2 ≤ 100000; decide))
        (eds_cons mon_tupS (ed_ofU (xs := (["a", "b", "c"] : List Str).map V.str) fun H1 => Evl.eu_tup (Evl.ea_cons Evl.ev_c (Evl.ea_cons Evl.ev_c (Evl.ea_cons Evl.ev_c Evl.ea_nil))) (by show 3 ≤ 100000; decide))
        eds_nil))))))))) p5 (by omega) fun v H6 k6 p6 hv => ?_
    · obtain ⟨ss, _, rfl⟩ := List.mem_map.mp hP
      exact mon_tupS
    obtain ⟨ce, cs, rfl, hce, al⟩ := hv
    obtain ⟨ad, rfl, had⟩ := alls8 al
    have ncep := hide_ne hce
    have hce6 : H6 ce = some (.lst (all8.map fun i => V.ref (ad i))) := hide_sub p H6 _ _ hce
    have had6 : ∀ i, H6 (ad i) = some (.tup ((cellA i).map V.str)) := fun i => hide_sub p H6 _ _ (had i)
    have nadp : ∀ i, ad i ≠ p := fun i => hide_ne (had i)
    have z5 : ∃ xs, H5 p = some (.lst xs) := by
      obtain ⟨ns1, n1, r1, z1, _⟩ := p5
      exact ⟨_, z1⟩
    have z6 : ∃ xs, H6 p = some (.lst xs) := by
      obtain ⟨ns1, n1, r1, z1, _⟩ := p6
      exact ⟨_, z1⟩
    have T6 : Tabs TT H6 := by
      obtain ⟨xs, z⟩ := z5
      exact tabs_kp z T5 k6
    -- what is left, what is mixed
    refine ⟨.ref ce, rfl, ce, all8.map (fun i => V.ref (ad i)), rfl, .inl (Evl.sq_of hce6), fun l nl => ⟨(by show 0 ≤ sizeLine; decide), fun m nm => ⟨.ref l, .ref m, rfl, ?_⟩⟩⟩
    have nl6 : l ≠ p ∧ l ≠ L := p6.ne nl
    have el := Evl.Ex.new (o := .lst (all8.map fun i => V.ref (ad i))) nl
    have em := Evl.Ex.new (o := .lst []) nm
    have nlm : l ≠ m := ne_of_none upd_same nm
    have nm6 : m ≠ p ∧ m ≠ L := (p6.same el).ne nm
    have m6 : H6 m = none := Evl.fresh_back el nm
    have lce : ce ≠ l := ne_of_none hce6 nl
    have mce : ce ≠ m := ne_of_none hce6 m6
    have lad : ∀ i, ad i ≠ l := fun i => ne_of_none (had6 i) nl
    have mad : ∀ i, ad i ≠ m := fun i => ne_of_none (had6 i) m6
    dsimp only
    refine Evl.q_forR1 (n := 8) (Evl.ea_cons (x := .int 8) (fun H1 e1 Q q => ⟨.ref ce, rfl, ce, all8.map (fun i => V.ref (ad i)), rfl, .inl (Evl.sq_of (e1 _ _ (em _ _ (el _ _ hce6)))), q H1 (Evl.Ex.refl H1)⟩) Evl.ea_nil) (by decide)
      (fun i σ' G => ∃ (t2 : Option V) (bl br : List (Fin 8)), σ' = [some (.ref a), some (.ref p), t2, o3, o4, some (.ref b), some (.ref c), some (.ref d), none, none, some (.ref ce), some (.ref l), some (.ref m)] ∧ G l = some (.lst (bl.map fun i => V.ref (ad i))) ∧ G m = some (.lst (br.map fun i => V.ref (ad i))) ∧
        (br ++ bl).Perm all8 ∧ br.length = i ∧ (∀ x o, x ≠ p → x ≠ l → x ≠ m → H6 x = some o → G x = some o) ∧ PenL G p L (600 + i))
      (fun G e => ⟨o2, all8, [], rfl, e _ _ (by rw [upd_ne nlm]; exact upd_same), e _ _ upd_same, List.Perm.refl _, rfl, fun x o _ _ _ hx => e _ _ (em _ _ (el _ _ hx)), (((p6.same el).same em).same e).up (by omega)⟩) (fun i σ' G hi hv => ?_) (fun σ' G hv => ?_)
    · obtain ⟨t2, bl, br, rfl, hlG, hmG, hperm, hbr, kG', pG'⟩ := hv
      have hlen : br.length + bl.length = 8 := by
        have := hperm.length_eq
        rw [List.length_append] at this
        exact this
      have hL : (bl.map fun i => V.ref (ad i)).length = 8 - i := by
        rw [List.length_map]
        omega
      refine ⟨.ref m, rfl, .inl ⟨rfl, _, Evl.sq_of hmG⟩, .ref l, rfl, .inl ⟨rfl, _, Evl.sq_of hlG⟩, .ref p, rfl, .ref l, rfl, l, _, rfl, .inl (Evl.sq_of hlG), p, L, 600 + i, _, rfl, pG', by omega, by omega, Nat.lt_of_le_of_lt (show _ ≤ 8 by omega) (by decide), fun r G2 r0 r1 k2 p2 => ?_⟩
      have hr' : r.toNat < (bl.map fun i => V.ref (ad i)).length := by omega
      have er : r = ((r.toNat : Nat) : Int) := by omega
      have z := atI_nat (xs := bl.map fun i => V.ref (ad i)) (j := r.toNat) (List.getElem?_eq_getElem hr')
      rw [← er] at z
      obtain ⟨j, hs, _, hjl, lo, hi_⟩ := atI_get z
      have hj : j < bl.length := by
        rw [List.length_map] at hjl
        exact hjl
      have hl2 : G2 l = some (.lst (bl.map fun i => V.ref (ad i))) := k2 _ _ nl6.1 hlG
      have hm2 : G2 m = some (.lst (br.map fun i => V.ref (ad i))) := k2 _ _ nm6.1 hmG
      refine ⟨l, _, r, j, .ref (ad bl[j]), rfl, rfl, hl2, by omega, by omega, hs, by rw [List.getElem?_map, List.getElem?_eq_getElem hj]; rfl, ?_⟩
      refine ⟨m, br.map (fun i => V.ref (ad i)), _, rfl, rfl, by rw [upd_ne nlm.symm]; exact hm2, small_of (by rw [List.length_map]; omega), some (.int (i : Int)), bl.eraseIdx j, br ++ [bl[j]], rfl, ?_, ?_, (pick_perm hj).trans hperm, ?_, fun x o h1 h2 h3 hx => ?_, (p2.over nl6).over nm6⟩
      · rw [upd_ne nlm, upd_same, erase_map]
      · rw [upd_same, List.map_append]
        rfl
      · rw [List.length_append, hbr]
        rfl
      · rw [upd_ne h3, upd_ne h2]
        exact k2 _ _ h1 (kG' _ _ h1 h2 h3 hx)
    obtain ⟨t2, bl, br, rfl, hlG, hmG, hperm, hbr, kG', pG'⟩ := hv
    have hlen : br.length + bl.length = 8 := by
      have := hperm.length_eq
      rw [List.length_append] at this
      exact this
    have hbr8 : br.length = 8 := hbr
    obtain rfl : bl = [] := List.eq_nil_of_length_eq_zero (by omega)
    rw [List.append_nil] at hperm
    have hceG : G ce = some (.lst (all8.map fun i => V.ref (ad i))) := kG' _ _ ncep lce mce hce6
    have hadG : ∀ i, G (ad i) = some (.tup ((cellA i).map V.str)) := fun i => kG' _ _ (nadp i) (lad i) (mad i) (had6 i)
    have TG : Tabs TT G := tabs_nl T6 fun x o hx no => kG' x o (fun e => by
        obtain ⟨xs, z⟩ := z6
        rw [e, z] at hx
        exact no xs (Option.some.inj hx).symm) (ne_of_none hx nl) (ne_of_none hx m6) hx
    refine ⟨.ref m, rfl, m, ad, keyA, br, rfl, rfl, Evl.sq_of hmG, by omega, ?_, ?_, fun d hd => ?_, fun i hi H9 e9 Q9 q9 => ?_, fun q' H8 nq e8 hq => ?_⟩
    · exact PySem.W.AllAlike.of key_alike
    · exact PySem.W.Sortable.tuples fun _ => ⟨_, _, rfl⟩
    · obtain ⟨i, _, rfl⟩ := List.mem_map.mp hd
      exact key_deep i
    · refine ⟨ad i, (cellA i).map V.str, rfl, .inr (Evl.st_of (e9 _ _ (hadG i))), ?_, fun v H10 e10 kp => ?_⟩
      · rw [List.length_map]
        have := cell_len i
        omega
      · obtain ⟨q2, t, rfl, hp, ht⟩ := kp
        exact q9 _ H10 e10 (.tup (Evl.st_of hp) (.cons (.int _) (.cons (.tup ht (dp_strs _)) .nil)))
    rw [sort8 hperm] at hq
    have had8 : ∀ i, H8 (ad i) = some (.tup ((cellA i).map V.str)) := fun i => e8 _ _ (hadG i)
    refine ⟨.ref ce, rfl, .list dCells, .list dCells, .lst (Evl.sq_of hq) (dp_cells had8), .lst (Evl.sq_of (e8 _ _ hceG)) (dp_cells had8), d_cells.1, d_cells.1, _, rfl, ?_⟩
    rw [PySem.SeqAt.eqv_refl _ d_cells.2]
    exact iteT ⟨.ref p, rfl, p, L, _, rfl, pG'.same e8, by decide, TG.ext e8, fun H9 => q H9⟩
end
end K01
namespace K01
open PySem PySem.Spec PyProof.Rows L2 BW LamX
section
variable {P : Program} {w : World} {K : PySem.W.Frag} {mg : Str → Option Value} {base : Heap} {CB : Addr}
theorem sc_bw : FnScope ["self", "part"] ["self", "part"] (defScope (inClass (topS 2) 0)) := ⟨rfl, rfl, rfl, by decide +kernel, rfl, by decide +kernel, by decide +kernel⟩
theorem ok_bw {f : Addr} {fd : FuncData} {k : Nat} (F : Fun K "__init__" "BadWord.__init__" (inClass (topS 2) 0) f fd) : FnOk P w K mg base CX0 (k + 1) f fd ["self", "part"] (spI1 K "part") := by
  refine F.ok sc_bw (fun vs H Q E h => ?_) (fun cdv A outer s H vs Q E hr h => ?_)
  · obtain ⟨a, C, x, rfl, _⟩ := h
    rfl
  · obtain ⟨a, C, x, rfl, O, no, ha, q⟩ := h
    refine ⟨_, pss_one (ps_ost (pv 0) (pv 1)), ?_⟩
    refine ⟨x, rfl, .ref a, rfl, a, C, rfl, O, no, .inl ⟨ha, fun d nd ne => ?_⟩⟩
    exact q d _ nd ne (fun b o hb h => by rw [upd_ne hb, upd_ne (ne_of_none h nd)]; exact h) upd_same (by rw [upd_ne ne, upd_same])
theorem ok_fixK {f : Addr} {fd : FuncData} {k : Nat} (T : Tx mg) (F : Fun K "fixed" "fixed" sFixed f fd) (D : Df P w K mg base (k + 1) "fixed" ["value"] spFix0 f fd) : FnOk P w K mg base CX0 (k + 2) f fd ["value"] (spFixS PinK ResK) :=
  ok_fixS T F D (fun _ _ _ _ h => h) (fun _ _ _ _ _ h => h) (fun _ _ _ _ _ _ _ h => h) (fun x H h Q q E => by
    obtain ⟨key, rfl, ok⟩ := h
    exact ⟨key, rfl, ok, fun H' e => q _ H' e rfl⟩)
theorem each_same {xs ys : List V} (h : Each2 (fun x y => y = x) xs ys) : ys = xs := by
  refine List.ext_getElem? fun i => ?_
  by_cases hi : i < xs.length
  · have hy : i < ys.length := by rw [h.1]; exact hi
    rw [List.getElem?_eq_getElem hi, List.getElem?_eq_getElem hy]
    exact congrArg some (h.2 i _ _ (List.getElem?_eq_getElem hi) (List.getElem?_eq_getElem hy))
  · rw [List.getElem?_eq_none (by have := h.1; omega), List.getElem?_eq_none (by omega)]
theorem ok_fixT {f : Addr} {fd : FuncData} {k : Nat} (T : Tx mg) (F : Fun K "fixed" "fixed" sFixed f fd) (D : Df P w K mg base (k + 1) "fixed" ["value"] (spFixS PinK ResK) f fd) : FnOk P w K mg base CX0 (k + 2) f fd ["value"] (spFixS PinT ResT) := by
  have ne : ∀ {H : Hp} {b D : Addr} {us zs : List V}, H b = some (.tup us) → H D = some (.lst zs) → b ≠ D := fun {H b D us zs} h1 h2 e => by
    rw [e, h2] at h1
    cases h1
  refine ok_fixS T F D (fun x H H' e h => ?_) (fun x y H H' e h => ?_) (fun x y H D zs o hD h => ?_) (fun x H h Q q E => ?_)
  · obtain ⟨b, ss, rfl, h1, h2⟩ := h
    exact ⟨b, ss, rfl, e _ _ h1, h2⟩
  · obtain ⟨b, c, ss, rfl, h1, rfl, h2⟩ := h
    exact ⟨b, c, ss, rfl, e _ _ h1, rfl, e _ _ h2⟩
  · obtain ⟨b, c, ss, rfl, h1, rfl, h2⟩ := h
    exact ⟨b, c, ss, rfl, by rw [upd_ne (ne h1 hD)]; exact h1, rfl, by rw [upd_ne (ne h2 hD)]; exact h2⟩
  · obtain ⟨b, ss, rfl, h1, h2, h3⟩ := h
    refine ⟨b, ss.map V.str, rfl, .inr h1, by rw [List.length_map]; exact h2, fun x hx => ?_, fun p ys H' np e hp he => ?_⟩
    · obtain ⟨z, hz, rfl⟩ := List.mem_map.mp hx
      exact ⟨.inr z, rfl, h3 z hz⟩
    · obtain rfl := each_same he
      exact q _ H' e ⟨b, p, ss, rfl, e _ _ h1, rfl, hp⟩
end

theorem all_mk {l : PySem.W.OpenLaw} {w : World} {K : PySem.W.Frag} {h : Heap} {mg : Str → Option Value} {fa c Pt : Addr} (X : K.In h) (G : h.Ns mainGlobals mg) (hfa : mg "law" = some (.ref fa))
    (hT : h.get? Pt = some { cls := .none, data := .fields #[] }) (nT : K.lookup Pt = none) (hh : PySem.W.codeHdIn K c Pt = true)
    {CB : Addr} {nm0 q0 : Str} {N0 : Addr} {bs0 bm0 : List Value} {sn0 : List Str} {sb0 : List Value} {ab0 : Bool} {cl0 : Option Bool} {dd0 : Option Addr} {ka0 kb0 kc0 kd0 ke0 : Option Value}
    (a0 : PySem.W.nsIn K mainGlobals "BadWord" = some (some (.ref CB)))
    (o0 : K.lookup CB = some (excClassObj nm0 q0 CB N0 bs0 bm0 true sn0 sb0 ab0 cl0 dd0 ka0 kb0 kc0 kd0 ke0 "ValueError.__new__"))
    (r0 : PySem.HandSPX.refsVE bm0 = true)
    (b0 : clsB K CB ["part"] = true)
    {I0 : Addr} {jd0 jn0 : Option Addr} {js0 : Array (Option Value)} {jo0 jk0 jc0 jp0 je0 jt0 : Value}
    (i0 : PySem.W.findIn K (.ref CB) "__init__" = some (some (.ref I0)))
    (l0 : K.lookup I0 = some ⟨jo0, jd0, .func (PySem.W.fnOf "__init__" "BadWord.__init__" (defArgs (inClass (topS 2) 0)) (defBody (inClass (topS 2) 0)) (defScope (inClass (topS 2) 0)) .none jk0 jc0 jp0 jn0 je0 jt0), js0⟩)
    (d0 : PySem.W.codeIn K je0 "BadWord.__init__" = true)
    (k0 : PySem.W.keepIn K (.ref I0) = true)
    (t0 : PySem.W.typeIn K (.ref I0) = some (.type "function"))
    (xm : PySem.W.exmOne K (.ref CB) (.ref CB) = some true)
    {Wa : Addr} {wod : Option Addr} {wits : Array Value} {wn : Nat} {wsl : Array (Option Value)}
    (wa : PySem.W.nsIn K mainGlobals "WORDS" = some (some (.ref Wa)))
    (wl : K.lookup Wa = some ⟨.type "tuple", wod, .seq wits wn, wsl⟩)
    (wz : wits.size ≤ sizeLine)
    (wv : Vals (eight.map V.str) wits.toList)
    {Da : Addr} {des : Array DictEntry} {dn : Nat}
    (da : PySem.W.nsIn K mainGlobals "TURNED" = some (some (.ref Da)))
    (dl : K.lookup Da = some ⟨.type "dict", none, .dict des dn, #[]⟩)
    (dk : PySem.W.KeysLit w.params des.toList)
    (ds : (Da == sysModules) = false)
    {e0 : Option Value} (g0 : PySem.W.nsIn K Da "apart" = some e0) (y0 : RelO (turnO "apart") e0)
    {e1 : Option Value} (g1 : PySem.W.nsIn K Da "meets" = some e1) (y1 : RelO (turnO "meets") e1)
    {e2 : Option Value} (g2 : PySem.W.nsIn K Da "overlaps" = some e2) (y2 : RelO (turnO "overlaps") e2)
    {e3 : Option Value} (g3 : PySem.W.nsIn K Da "same" = some e3) (y3 : RelO (turnO "same") e3)
    {e4 : Option Value} (g4 : PySem.W.nsIn K Da "deep" = some e4) (y4 : RelO (turnO "deep") e4)
    {e5 : Option Value} (g5 : PySem.W.nsIn K Da "rim" = some e5) (y5 : RelO (turnO "rim") e5)
    {e6 : Option Value} (g6 : PySem.W.nsIn K Da "holdsdeep" = some e6) (y6 : RelO (turnO "holdsdeep") e6)
    {e7 : Option Value} (g7 : PySem.W.nsIn K Da "holdsrim" = some e7) (y7 : RelO (turnO "holdsrim") e7)
    {tm : Tok}
    (zm : PySem.W.nsIn K mainGlobals "MOST_SIGNS" = some (some (.int 12 tm)))
    (z_isinstance : PySem.W.nsIn K mainGlobals "isinstance" = some none)
    (z_int : PySem.W.nsIn K mainGlobals "int" = some none)
    (z_str : PySem.W.nsIn K mainGlobals "str" = some none)
    (z_bool : PySem.W.nsIn K mainGlobals "bool" = some none)
    (z_list : PySem.W.nsIn K mainGlobals "list" = some none)
    (z_tuple : PySem.W.nsIn K mainGlobals "tuple" = some none)
    (z_len : PySem.W.nsIn K mainGlobals "len" = some none)
    (z_all : PySem.W.nsIn K mainGlobals "all" = some none)
    (z_range : PySem.W.nsIn K mainGlobals "range" = some none)
    (z_max : PySem.W.nsIn K mainGlobals "max" = some none)
    (z_set : PySem.W.nsIn K mainGlobals "set" = some none)
    (z_enumerate : PySem.W.nsIn K mainGlobals "enumerate" = some none)
    (z_sorted : PySem.W.nsIn K mainGlobals "sorted" = some none)
    (z_abs : PySem.W.nsIn K mainGlobals "abs" = some none)
    {f0 : Addr} {vd0 vn0 : Option Addr} {vs0 : Array (Option Value)} {vo0 vk0 vc0 vp0 ve0 vt0 : Value}
    (fa0 : PySem.W.nsIn K mainGlobals "fixed" = some (some (.ref f0)))
    (fl0 : K.lookup f0 = some ⟨vo0, vd0, .func (PySem.W.fnOf "fixed" "fixed" (defArgs (topS 4)) (defBody (topS 4)) (defScope (topS 4)) .none vk0 vc0 vp0 vn0 ve0 vt0), vs0⟩)
    (fc0 : PySem.W.codeIn K ve0 "fixed" = true)
    (fk0 : PySem.W.keepIn K (.ref f0) = true)
    {f1 : Addr} {vd1 vn1 : Option Addr} {vs1 : Array (Option Value)} {vo1 vk1 vc1 vp1 ve1 vt1 : Value}
    (fa1 : PySem.W.nsIn K mainGlobals "is_word" = some (some (.ref f1)))
    (fl1 : K.lookup f1 = some ⟨vo1, vd1, .func (PySem.W.fnOf "is_word" "is_word" (defArgs (topS 9)) (defBody (topS 9)) (defScope (topS 9)) .none vk1 vc1 vp1 vn1 ve1 vt1), vs1⟩)
    (fc1 : PySem.W.codeIn K ve1 "is_word" = true)
    (fk1 : PySem.W.keepIn K (.ref f1) = true)
    {f2 : Addr} {vd2 vn2 : Option Addr} {vs2 : Array (Option Value)} {vo2 vk2 vc2 vp2 ve2 vt2 : Value}
    (fa2 : PySem.W.nsIn K mainGlobals "turned_word" = some (some (.ref f2)))
    (fl2 : K.lookup f2 = some ⟨vo2, vd2, .func (PySem.W.fnOf "turned_word" "turned_word" (defArgs (topS 10)) (defBody (topS 10)) (defScope (topS 10)) .none vk2 vc2 vp2 vn2 ve2 vt2), vs2⟩)
    (fc2 : PySem.W.codeIn K ve2 "turned_word" = true)
    (fk2 : PySem.W.keepIn K (.ref f2) = true)
    {f3 : Addr} {vd3 vn3 : Option Addr} {vs3 : Array (Option Value)} {vo3 vk3 vc3 vp3 ve3 vt3 : Value}
    (fa3 : PySem.W.nsIn K mainGlobals "is_integer" = some (some (.ref f3)))
    (fl3 : K.lookup f3 = some ⟨vo3, vd3, .func (PySem.W.fnOf "is_integer" "is_integer" (defArgs (topS 11)) (defBody (topS 11)) (defScope (topS 11)) .none vk3 vc3 vp3 vn3 ve3 vt3), vs3⟩)
    (fc3 : PySem.W.codeIn K ve3 "is_integer" = true)
    (fk3 : PySem.W.keepIn K (.ref f3) = true)
    {f4 : Addr} {vd4 vn4 : Option Addr} {vs4 : Array (Option Value)} {vo4 vk4 vc4 vp4 ve4 vt4 : Value}
    (fa4 : PySem.W.nsIn K mainGlobals "is_within" = some (some (.ref f4)))
    (fl4 : K.lookup f4 = some ⟨vo4, vd4, .func (PySem.W.fnOf "is_within" "is_within" (defArgs (topS 12)) (defBody (topS 12)) (defScope (topS 12)) .none vk4 vc4 vp4 vn4 ve4 vt4), vs4⟩)
    (fc4 : PySem.W.codeIn K ve4 "is_within" = true)
    (fk4 : PySem.W.keepIn K (.ref f4) = true)
    {f5 : Addr} {vd5 vn5 : Option Addr} {vs5 : Array (Option Value)} {vo5 vk5 vc5 vp5 ve5 vt5 : Value}
    (fa5 : PySem.W.nsIn K mainGlobals "is_name" = some (some (.ref f5)))
    (fl5 : K.lookup f5 = some ⟨vo5, vd5, .func (PySem.W.fnOf "is_name" "is_name" (defArgs (topS 13)) (defBody (topS 13)) (defScope (topS 13)) .none vk5 vc5 vp5 vn5 ve5 vt5), vs5⟩)
    (fc5 : PySem.W.codeIn K ve5 "is_name" = true)
    (fk5 : PySem.W.keepIn K (.ref f5) = true)
    {f6 : Addr} {vd6 vn6 : Option Addr} {vs6 : Array (Option Value)} {vo6 vk6 vc6 vp6 ve6 vt6 : Value}
    (fa6 : PySem.W.nsIn K mainGlobals "is_list" = some (some (.ref f6)))
    (fl6 : K.lookup f6 = some ⟨vo6, vd6, .func (PySem.W.fnOf "is_list" "is_list" (defArgs (topS 14)) (defBody (topS 14)) (defScope (topS 14)) .none vk6 vc6 vp6 vn6 ve6 vt6), vs6⟩)
    (fc6 : PySem.W.codeIn K ve6 "is_list" = true)
    (fk6 : PySem.W.keepIn K (.ref f6) = true)
    {f7 : Addr} {vd7 vn7 : Option Addr} {vs7 : Array (Option Value)} {vo7 vk7 vc7 vp7 ve7 vt7 : Value}
    (fa7 : PySem.W.nsIn K mainGlobals "are_names" = some (some (.ref f7)))
    (fl7 : K.lookup f7 = some ⟨vo7, vd7, .func (PySem.W.fnOf "are_names" "are_names" (defArgs (topS 15)) (defBody (topS 15)) (defScope (topS 15)) .none vk7 vc7 vp7 vn7 ve7 vt7), vs7⟩)
    (fc7 : PySem.W.codeIn K ve7 "are_names" = true)
    (fk7 : PySem.W.keepIn K (.ref f7) = true)
    {f8 : Addr} {vd8 vn8 : Option Addr} {vs8 : Array (Option Value)} {vo8 vk8 vc8 vp8 ve8 vt8 : Value}
    (fa8 : PySem.W.nsIn K mainGlobals "is_cell" = some (some (.ref f8)))
    (fl8 : K.lookup f8 = some ⟨vo8, vd8, .func (PySem.W.fnOf "is_cell" "is_cell" (defArgs (topS 16)) (defBody (topS 16)) (defScope (topS 16)) .none vk8 vc8 vp8 vn8 ve8 vt8), vs8⟩)
    (fc8 : PySem.W.codeIn K ve8 "is_cell" = true)
    (fk8 : PySem.W.keepIn K (.ref f8) = true)
    {f9 : Addr} {vd9 vn9 : Option Addr} {vs9 : Array (Option Value)} {vo9 vk9 vc9 vp9 ve9 vt9 : Value}
    (fa9 : PySem.W.nsIn K mainGlobals "first_twice" = some (some (.ref f9)))
    (fl9 : K.lookup f9 = some ⟨vo9, vd9, .func (PySem.W.fnOf "first_twice" "first_twice" (defArgs (topS 17)) (defBody (topS 17)) (defScope (topS 17)) .none vk9 vc9 vp9 vn9 ve9 vt9), vs9⟩)
    (fc9 : PySem.W.codeIn K ve9 "first_twice" = true)
    (fk9 : PySem.W.keepIn K (.ref f9) = true)
    {f10 : Addr} {vd10 vn10 : Option Addr} {vs10 : Array (Option Value)} {vo10 vk10 vc10 vp10 ve10 vt10 : Value}
    (fa10 : PySem.W.nsIn K mainGlobals "cell_key" = some (some (.ref f10)))
    (fl10 : K.lookup f10 = some ⟨vo10, vd10, .func (PySem.W.fnOf "cell_key" "cell_key" (defArgs (topS 18)) (defBody (topS 18)) (defScope (topS 18)) .none vk10 vc10 vp10 vn10 ve10 vt10), vs10⟩)
    (fc10 : PySem.W.codeIn K ve10 "cell_key" = true)
    (fk10 : PySem.W.keepIn K (.ref f10) = true)
    {f11 : Addr} {vd11 vn11 : Option Addr} {vs11 : Array (Option Value)} {vo11 vk11 vc11 vp11 ve11 vt11 : Value}
    (fa11 : PySem.W.nsIn K mainGlobals "cell_text" = some (some (.ref f11)))
    (fl11 : K.lookup f11 = some ⟨vo11, vd11, .func (PySem.W.fnOf "cell_text" "cell_text" (defArgs (topS 19)) (defBody (topS 19)) (defScope (topS 19)) .none vk11 vc11 vp11 vn11 ve11 vt11), vs11⟩)
    (fc11 : PySem.W.codeIn K ve11 "cell_text" = true)
    (fk11 : PySem.W.keepIn K (.ref f11) = true)
    {f12 : Addr} {vd12 vn12 : Option Addr} {vs12 : Array (Option Value)} {vo12 vk12 vc12 vp12 ve12 vt12 : Value}
    (fa12 : PySem.W.nsIn K mainGlobals "_law_store" = some (some (.ref f12)))
    (fl12 : K.lookup f12 = some ⟨vo12, vd12, .func (PySem.W.fnOf "_law_store" "_law_store" (defArgs (topS 21)) (defBody (topS 21)) (defScope (topS 21)) .none vk12 vc12 vp12 vn12 ve12 vt12), vs12⟩)
    (fc12 : PySem.W.codeIn K ve12 "_law_store" = true)
    (fk12 : PySem.W.keepIn K (.ref f12) = true)
    {f13 : Addr} {vd13 vn13 : Option Addr} {vs13 : Array (Option Value)} {vo13 vk13 vc13 vp13 ve13 vt13 : Value}
    (fa13 : PySem.W.nsIn K mainGlobals "_law_next" = some (some (.ref f13)))
    (fl13 : K.lookup f13 = some ⟨vo13, vd13, .func (PySem.W.fnOf "_law_next" "_law_next" (defArgs (topS 22)) (defBody (topS 22)) (defScope (topS 22)) .none vk13 vc13 vp13 vn13 ve13 vt13), vs13⟩)
    (fc13 : PySem.W.codeIn K ve13 "_law_next" = true)
    (fk13 : PySem.W.keepIn K (.ref f13) = true)
    {f14 : Addr} {vd14 vn14 : Option Addr} {vs14 : Array (Option Value)} {vo14 vk14 vc14 vp14 ve14 vt14 : Value}
    (fa14 : PySem.W.nsIn K mainGlobals "_law_name" = some (some (.ref f14)))
    (fl14 : K.lookup f14 = some ⟨vo14, vd14, .func (PySem.W.fnOf "_law_name" "_law_name" (defArgs (topS 23)) (defBody (topS 23)) (defScope (topS 23)) .none vk14 vc14 vp14 vn14 ve14 vt14), vs14⟩)
    (fc14 : PySem.W.codeIn K ve14 "_law_name" = true)
    (fk14 : PySem.W.keepIn K (.ref f14) = true)
    {f15 : Addr} {vd15 vn15 : Option Addr} {vs15 : Array (Option Value)} {vo15 vk15 vc15 vp15 ve15 vt15 : Value}
    (fa15 : PySem.W.nsIn K mainGlobals "_law_names" = some (some (.ref f15)))
    (fl15 : K.lookup f15 = some ⟨vo15, vd15, .func (PySem.W.fnOf "_law_names" "_law_names" (defArgs (topS 24)) (defBody (topS 24)) (defScope (topS 24)) .none vk15 vc15 vp15 vn15 ve15 vt15), vs15⟩)
    (fc15 : PySem.W.codeIn K ve15 "_law_names" = true)
    (fk15 : PySem.W.keepIn K (.ref f15) = true)
    {f16 : Addr} {vd16 vn16 : Option Addr} {vs16 : Array (Option Value)} {vo16 vk16 vc16 vp16 ve16 vt16 : Value}
    (fa16 : PySem.W.nsIn K mainGlobals "_law_value" = some (some (.ref f16)))
    (fl16 : K.lookup f16 = some ⟨vo16, vd16, .func (PySem.W.fnOf "_law_value" "_law_value" (defArgs (topS 25)) (defBody (topS 25)) (defScope (topS 25)) .none vk16 vc16 vp16 vn16 ve16 vt16), vs16⟩)
    (fc16 : PySem.W.codeIn K ve16 "_law_value" = true)
    (fk16 : PySem.W.keepIn K (.ref f16) = true)
    {f17 : Addr} {vd17 vn17 : Option Addr} {vs17 : Array (Option Value)} {vo17 vk17 vc17 vp17 ve17 vt17 : Value}
    (fa17 : PySem.W.nsIn K mainGlobals "_law_is_plain" = some (some (.ref f17)))
    (fl17 : K.lookup f17 = some ⟨vo17, vd17, .func (PySem.W.fnOf "_law_is_plain" "_law_is_plain" (defArgs (topS 26)) (defBody (topS 26)) (defScope (topS 26)) .none vk17 vc17 vp17 vn17 ve17 vt17), vs17⟩)
    (fc17 : PySem.W.codeIn K ve17 "_law_is_plain" = true)
    (fk17 : PySem.W.keepIn K (.ref f17) = true)
    {f18 : Addr} {vd18 vn18 : Option Addr} {vs18 : Array (Option Value)} {vo18 vk18 vc18 vp18 ve18 vt18 : Value}
    (fa18 : PySem.W.nsIn K mainGlobals "_law_is_name" = some (some (.ref f18)))
    (fl18 : K.lookup f18 = some ⟨vo18, vd18, .func (PySem.W.fnOf "_law_is_name" "_law_is_name" (defArgs (topS 27)) (defBody (topS 27)) (defScope (topS 27)) .none vk18 vc18 vp18 vn18 ve18 vt18), vs18⟩)
    (fc18 : PySem.W.codeIn K ve18 "_law_is_name" = true)
    (fk18 : PySem.W.keepIn K (.ref f18) = true)
    {f19 : Addr} {vd19 vn19 : Option Addr} {vs19 : Array (Option Value)} {vo19 vk19 vc19 vp19 ve19 vt19 : Value}
    (fa19 : PySem.W.nsIn K mainGlobals "_law_is_cell" = some (some (.ref f19)))
    (fl19 : K.lookup f19 = some ⟨vo19, vd19, .func (PySem.W.fnOf "_law_is_cell" "_law_is_cell" (defArgs (topS 28)) (defBody (topS 28)) (defScope (topS 28)) .none vk19 vc19 vp19 vn19 ve19 vt19), vs19⟩)
    (fc19 : PySem.W.codeIn K ve19 "_law_is_cell" = true)
    (fk19 : PySem.W.keepIn K (.ref f19) = true)
    {f20 : Addr} {vd20 vn20 : Option Addr} {vs20 : Array (Option Value)} {vo20 vk20 vc20 vp20 ve20 vt20 : Value}
    (fa20 : PySem.W.nsIn K mainGlobals "_law_value_right" = some (some (.ref f20)))
    (fl20 : K.lookup f20 = some ⟨vo20, vd20, .func (PySem.W.fnOf "_law_value_right" "_law_value_right" (defArgs (topS 29)) (defBody (topS 29)) (defScope (topS 29)) .none vk20 vc20 vp20 vn20 ve20 vt20), vs20⟩)
    (fc20 : PySem.W.codeIn K ve20 "_law_value_right" = true)
    (fk20 : PySem.W.keepIn K (.ref f20) = true)
    {f21 : Addr} {vd21 vn21 : Option Addr} {vs21 : Array (Option Value)} {vo21 vk21 vc21 vp21 ve21 vt21 : Value}
    (fa21 : PySem.W.nsIn K mainGlobals "_law_heard" = some (some (.ref f21)))
    (fl21 : K.lookup f21 = some ⟨vo21, vd21, .func (PySem.W.fnOf "_law_heard" "_law_heard" (defArgs (topS 30)) (defBody (topS 30)) (defScope (topS 30)) .none vk21 vc21 vp21 vn21 ve21 vt21), vs21⟩)
    (fc21 : PySem.W.codeIn K ve21 "_law_heard" = true)
    (fk21 : PySem.W.keepIn K (.ref f21) = true)
    {f22 : Addr} {vd22 vn22 : Option Addr} {vs22 : Array (Option Value)} {vo22 vk22 vc22 vp22 vt22 : Value}
    (fa22 : PySem.W.nsIn K mainGlobals "_law_words_right" = some (some (.ref f22)))
    (fl22 : K.lookup f22 = some ⟨vo22, vd22, .func (PySem.W.fnOf "_law_words_right" "_law_words_right" (defArgs (topS 31)) (defBody (topS 31)) (defScope (topS 31)) .none vk22 vc22 vp22 vn22 (.ref c) vt22), vs22⟩)
    (fc22 : PySem.W.codeIn K (.ref c) "_law_words_right" = true)
    (fk22 : PySem.W.keepIn K (.ref f22) = true)
    {f23 : Addr} {vd23 vn23 : Option Addr} {vs23 : Array (Option Value)} {vo23 vk23 vc23 vp23 ve23 vt23 : Value}
    (fa23 : PySem.W.nsIn K mainGlobals "law" = some (some (.ref f23)))
    (fl23 : K.lookup f23 = some ⟨vo23, vd23, .func (PySem.W.fnOf "law" "law" (defArgs (topS 32)) (defBody (topS 32)) (defScope (topS 32)) .none vk23 vc23 vp23 vn23 ve23 vt23), vs23⟩)
    (fc23 : PySem.W.codeIn K ve23 "law" = true)
    (fk23 : PySem.W.keepIn K (.ref f23) = true)
    : LawAtS l w K CX0 7 63 "_law_script" mg fa h := by
  have e := hfa.symm.trans (PySem.W.mg_of X G fa23)
  cases e
  refine ⟨PySem.W.fnOf "law" "law" (defArgs (topS 32)) (defBody (topS 32)) (defScope (topS 32)) .none vk23 vc23 vp23 vn23 ve23 vt23, [(c, Pt)], spLaw K [(Pt, qLam)], fun p hp => ?_, fun p hp => ?_, fun p hp => ?_, fun s v => .of_eq rfl, fun H a ns hl _ hP hS => ?_, fun base _ _ hB => ?_⟩
  · rw [List.mem_singleton.mp hp]
    exact hT
  · rw [List.mem_singleton.mp hp]
    exact nT
  · rw [List.mem_singleton.mp hp]
    exact PySem.W.codeHd_of_K X hh
  · refine ⟨a, ns, rfl, hS, hl, fun q hq => ?_, fun _ => rfl⟩
    rw [List.mem_singleton.mp hq]
    exact ⟨#[], hP _ (List.mem_singleton.mpr rfl), True.intro, fun pos cv hc => nomatch hc⟩
  have TB := hB (c, Pt) (List.mem_singleton.mpr rfl)
  have m0 := PySem.W.mg_of X G fa0
  have F0 := fun_mk (st := topS 4) fl0 fc0 fk0
  have u0 := F0.binds (ps := ["value"]) fun _ _ _ _ _ _ us hl => match us, hl with | [_], _ => rfl
  have m1 := PySem.W.mg_of X G fa1
  have F1 := fun_mk (st := topS 9) fl1 fc1 fk1
  have u1 := F1.binds (ps := ["value"]) fun _ _ _ _ _ _ us hl => match us, hl with | [_], _ => rfl
  have m2 := PySem.W.mg_of X G fa2
  have F2 := fun_mk (st := topS 10) fl2 fc2 fk2
  have u2 := F2.binds (ps := ["word"]) fun _ _ _ _ _ _ us hl => match us, hl with | [_], _ => rfl
  have m3 := PySem.W.mg_of X G fa3
  have F3 := fun_mk (st := topS 11) fl3 fc3 fk3
  have u3 := F3.binds (ps := ["value"]) fun _ _ _ _ _ _ us hl => match us, hl with | [_], _ => rfl
  have m4 := PySem.W.mg_of X G fa4
  have F4 := fun_mk (st := topS 12) fl4 fc4 fk4
  have u4 := F4.binds (ps := ["value", "least", "most"]) fun _ _ _ _ _ _ us hl => match us, hl with | [_, _, _], _ => rfl
  have m5 := PySem.W.mg_of X G fa5
  have F5 := fun_mk (st := topS 13) fl5 fc5 fk5
  have u5 := F5.binds (ps := ["value"]) fun _ _ _ _ _ _ us hl => match us, hl with | [_], _ => rfl
  have m6 := PySem.W.mg_of X G fa6
  have F6 := fun_mk (st := topS 14) fl6 fc6 fk6
  have u6 := F6.binds (ps := ["value"]) fun _ _ _ _ _ _ us hl => match us, hl with | [_], _ => rfl
  have m7 := PySem.W.mg_of X G fa7
  have F7 := fun_mk (st := topS 15) fl7 fc7 fk7
  have u7 := F7.binds (ps := ["value"]) fun _ _ _ _ _ _ us hl => match us, hl with | [_], _ => rfl
  have m8 := PySem.W.mg_of X G fa8
  have F8 := fun_mk (st := topS 16) fl8 fc8 fk8
  have u8 := F8.binds (ps := ["value"]) fun _ _ _ _ _ _ us hl => match us, hl with | [_], _ => rfl
  have m9 := PySem.W.mg_of X G fa9
  have F9 := fun_mk (st := topS 17) fl9 fc9 fk9
  have u9 := F9.binds (ps := ["values"]) fun _ _ _ _ _ _ us hl => match us, hl with | [_], _ => rfl
  have m10 := PySem.W.mg_of X G fa10
  have F10 := fun_mk (st := topS 18) fl10 fc10 fk10
  have u10 := F10.binds (ps := ["cell"]) fun _ _ _ _ _ _ us hl => match us, hl with | [_], _ => rfl
  have m11 := PySem.W.mg_of X G fa11
  have F11 := fun_mk (st := topS 19) fl11 fc11 fk11
  have u11 := F11.binds (ps := ["cell"]) fun _ _ _ _ _ _ us hl => match us, hl with | [_], _ => rfl
  have m12 := PySem.W.mg_of X G fa12
  have F12 := fun_mk (st := topS 21) fl12 fc12 fk12
  have u12 := F12.binds (ps := ["_law_script"]) fun _ _ _ _ _ _ us hl => match us, hl with | [_], _ => rfl
  have m13 := PySem.W.mg_of X G fa13
  have F13 := fun_mk (st := topS 22) fl13 fc13 fk13
  have u13 := F13.binds (ps := ["_law_store_here", "_law_many"]) fun _ _ _ _ _ _ us hl => match us, hl with | [_, _], _ => rfl
  have m14 := PySem.W.mg_of X G fa14
  have F14 := fun_mk (st := topS 23) fl14 fc14 fk14
  have u14 := F14.binds (ps := ["_law_store_here"]) fun _ _ _ _ _ _ us hl => match us, hl with | [_], _ => rfl
  have m15 := PySem.W.mg_of X G fa15
  have F15 := fun_mk (st := topS 24) fl15 fc15 fk15
  have u15 := F15.binds (ps := ["_law_store_here"]) fun _ _ _ _ _ _ us hl => match us, hl with | [_], _ => rfl
  have m16 := PySem.W.mg_of X G fa16
  have F16 := fun_mk (st := topS 25) fl16 fc16 fk16
  have u16 := F16.binds (ps := ["_law_store_here"]) fun _ _ _ _ _ _ us hl => match us, hl with | [_], _ => rfl
  have m17 := PySem.W.mg_of X G fa17
  have F17 := fun_mk (st := topS 26) fl17 fc17 fk17
  have u17 := F17.binds (ps := ["_law_value_here"]) fun _ _ _ _ _ _ us hl => match us, hl with | [_], _ => rfl
  have m18 := PySem.W.mg_of X G fa18
  have F18 := fun_mk (st := topS 27) fl18 fc18 fk18
  have u18 := F18.binds (ps := ["_law_value_here"]) fun _ _ _ _ _ _ us hl => match us, hl with | [_], _ => rfl
  have m19 := PySem.W.mg_of X G fa19
  have F19 := fun_mk (st := topS 28) fl19 fc19 fk19
  have u19 := F19.binds (ps := ["_law_value_here"]) fun _ _ _ _ _ _ us hl => match us, hl with | [_], _ => rfl
  have m20 := PySem.W.mg_of X G fa20
  have F20 := fun_mk (st := topS 29) fl20 fc20 fk20
  have u20 := F20.binds (ps := ["_law_value_here", "_law_least", "_law_most"]) fun _ _ _ _ _ _ us hl => match us, hl with | [_, _, _], _ => rfl
  have m21 := PySem.W.mg_of X G fa21
  have F21 := fun_mk (st := topS 30) fl21 fc21 fk21
  have u21 := F21.binds (ps := ["_law_ask"]) fun _ _ _ _ _ _ us hl => match us, hl with | [_], _ => rfl
  have m22 := PySem.W.mg_of X G fa22
  have m23 := PySem.W.mg_of X G fa23
  have F23 := fun_mk (st := topS 32) fl23 fc23 fk23
  have u23 := F23.binds (ps := ["_law_script"]) fun _ _ _ _ _ _ us hl => match us, hl with | [_], _ => rfl
  have FW : FunC K "_law_words_right" sWords f22 _ c := ⟨⟨_, _, _, _, _, _, _, _, rfl, fl22, fc22⟩⟩
  have uW : Binds K (PySem.W.fnOf "_law_words_right" "_law_words_right" (defArgs (topS 31)) (defBody (topS 31)) (defScope (topS 31)) .none vk22 vc22 vp22 vn22 (.ref c) vt22) ["_law_store_here"] [] := (fun_mk (st := topS 31) fl22 fc22 fk22).binds (ps := ["_law_store_here"]) fun _ _ _ _ _ _ us hl => match us, hl with | [_], _ => rfl
  have HD : HdF l.prog w K mg f21 := ⟨m21, fk21, _, _, _, _, _, _, _, _, _, _, fl21, fc21, u21⟩
  have n_isinstance := PySem.W.mg_none_of X G z_isinstance
  have n_int := PySem.W.mg_none_of X G z_int
  have n_str := PySem.W.mg_none_of X G z_str
  have n_bool := PySem.W.mg_none_of X G z_bool
  have n_list := PySem.W.mg_none_of X G z_list
  have n_tuple := PySem.W.mg_none_of X G z_tuple
  have n_len := PySem.W.mg_none_of X G z_len
  have n_all := PySem.W.mg_none_of X G z_all
  have n_range := PySem.W.mg_none_of X G z_range
  have n_max := PySem.W.mg_none_of X G z_max
  have n_set := PySem.W.mg_none_of X G z_set
  have n_enumerate := PySem.W.mg_none_of X G z_enumerate
  have n_sorted := PySem.W.mg_none_of X G z_sorted
  have n_abs := PySem.W.mg_none_of X G z_abs
  have T : Tx mg := ⟨n_isinstance, n_int, n_str, n_bool, n_list, n_tuple, n_len, n_all, n_range, ⟨_, PySem.W.mg_of X G zm⟩⟩
  have B0 := clsB_ok b0
  have KD : KDic K w Da des dn := ⟨dl, dk, ds⟩
  have bad : E1 l.prog w K mg base "BadWord" "part" CB := e1_mk (st := (inClass (topS 2) 0)) (qual := "BadWord.__init__") (PySem.W.mg_of X G a0) (B0.oex o0 r0) B0 i0 t0 (fun_mk (st := (inClass (topS 2) 0)) l0 d0 k0) (ok_bw (fun_mk (st := (inClass (topS 2) 0)) l0 d0 k0)) (fun _ _ _ _ _ _ us hl => match us, hl with | [_, _], _ => rfl) (fun _ _ _ _ _ _ us ws h1 h2 => match us, ws, h1, h2 with | [_], [_], _, _ => rfl)
  have TWd : Tw l.prog w K mg base CB := ⟨n_isinstance, n_str, ⟨Wa, PySem.W.mg_of X G wa, fun H => .inr ⟨_, _, _, wl, rfl, rfl, wz, wv⟩⟩, ⟨Da, PySem.W.mg_of X G da, ⟨_, _, KD⟩, fun z hz => ?_⟩, bad, B0.ex, B0.ty⟩
  rotate_left
  · have all : ∀ z ∈ eight, KGet K w Da z (turnO z) := by
      intro z hz
      simp only [eight, List.mem_cons, List.not_mem_nil, or_false] at hz
      rcases hz with rfl | rfl | rfl | rfl | rfl | rfl | rfl | rfl
      · exact ⟨_, _, _, KD, g0, y0⟩
      · exact ⟨_, _, _, KD, g1, y1⟩
      · exact ⟨_, _, _, KD, g2, y2⟩
      · exact ⟨_, _, _, KD, g3, y3⟩
      · exact ⟨_, _, _, KD, g4, y4⟩
      · exact ⟨_, _, _, KD, g5, y5⟩
      · exact ⟨_, _, _, KD, g6, y6⟩
      · exact ⟨_, _, _, KD, g7, y7⟩
    exact all z hz
  have Sd : Df l.prog w K mg base 6 "_law_store" ["_law_script"] (spStore K) _ _ := ⟨ok_store (k := 5) F12 n_int, u12, m12, fk12⟩
  have N4 : Df l.prog w K mg base 4 "_law_next" ["_law_store_here", "_law_many"] spNext _ _ := ⟨ok_next (k := 3) F13 n_int n_len n_abs, u13, m13, fk13⟩
  have N5 := Df_mono N4 (show 4 ≤ 5 by decide)
  have N6 := Df_mono N4 (show 4 ≤ 6 by decide)
  have M5 : Df l.prog w K mg base 5 "_law_name" ["_law_store_here"] spName _ _ := ⟨ok_name (k := 3) T n_max N4 F14, u14, m14, fk14⟩
  have S5 : Df l.prog w K mg base 5 "_law_names" ["_law_store_here"] spNames _ _ := ⟨ok_names (k := 3) T n_enumerate n_sorted N4 F15, u15, m15, fk15⟩
  have V6 : Df l.prog w K mg base 6 "_law_value" ["_law_store_here"] spValue _ _ := ⟨ok_value (k := 4) T N5 M5 S5 F16, u16, m16, fk16⟩
  have I5 : Df l.prog w K mg base 5 "is_integer" ["value"] (spK isP) _ _ := ⟨ok_isint (k := 4) T F3, u3, m3, fk3⟩
  have W5 : Df l.prog w K mg base 5 "is_within" ["value", "least", "most"] spWithin _ _ := ⟨ok_within (k := 3) T F4 (ok_isint (k := 3) T F3) u3 m3 fk3, u4, m4, fk4⟩
  have A5 : Df l.prog w K mg base 5 "is_name" ["value"] (spK isName) _ _ := ⟨ok_isname (k := 4) T F5, u5, m5, fk5⟩
  have A3 : Df l.prog w K mg base 3 "is_name" ["value"] (spK isName) _ _ := ⟨ok_isname (k := 2) T F5, u5, m5, fk5⟩
  have L3 : Df l.prog w K mg base 3 "is_list" ["value"] (spS Option.isSome) _ _ := ⟨ok_islist (k := 2) T F6, u6, m6, fk6⟩
  have R4 : Df l.prog w K mg base 4 "are_names" ["value"] (spS namesO) _ _ := ⟨ok_arenames (k := 2) T F7 L3 A3, u7, m7, fk7⟩
  have C5 : Df l.prog w K mg base 5 "is_cell" ["value"] (spS cellO) _ _ := ⟨ok_iscell (k := 3) T F8 R4, u8, m8, fk8⟩
  have P5 : Df l.prog w K mg base 5 "_law_is_plain" ["_law_value_here"] (spK isP) _ _ := ⟨ok_lplain (k := 4) T F17, u17, m17, fk17⟩
  have O5 : Df l.prog w K mg base 5 "_law_is_name" ["_law_value_here"] (spKo isName) _ _ := ⟨ok_lname (k := 4) T F18, u18, m18, fk18⟩
  have O4 : Df l.prog w K mg base 4 "_law_is_name" ["_law_value_here"] (spKo isName) _ _ := ⟨ok_lname (k := 3) T F18, u18, m18, fk18⟩
  have Q5 : Df l.prog w K mg base 5 "_law_is_cell" ["_law_value_here"] (spS cellO) _ _ := ⟨ok_lcell (k := 3) T F19 O4, u19, m19, fk19⟩
  have CK5 : Df l.prog w K mg base 5 "cell_key" ["cell"] (spKey K) _ _ := ⟨ok_cellkey (k := 4) T F10, u10, m10, fk10⟩
  have CK4 : Df l.prog w K mg base 4 "cell_key" ["cell"] (spKey K) _ _ := ⟨ok_cellkey (k := 3) T F10, u10, m10, fk10⟩
  have CT5 : Df l.prog w K mg base 5 "cell_text" ["cell"] (spText K) _ _ := ⟨ok_celltext (k := 4) T F11, u11, m11, fk11⟩
  have VR : Vr l.prog w K mg base 5 := ⟨⟨_, _, I5, (BW.kb0 (ks := ["value"]) F3 fun _ _ _ _ _ _ ws h => match ws, h with | [_], _ => rfl)⟩, ⟨_, _, W5, (BW.kb0R (ks := ["most", "least", "value"]) F4 fun _ _ _ _ _ _ ws h => match ws, h with | [_, _, _], _ => rfl)⟩, ⟨_, _, A5, (BW.kb0 (ks := ["value"]) F5 fun _ _ _ _ _ _ ws h => match ws, h with | [_], _ => rfl)⟩, ⟨_, _, C5, (BW.kb0 (ks := ["value"]) F8 fun _ _ _ _ _ _ ws h => match ws, h with | [_], _ => rfl)⟩, ⟨_, _, P5⟩, ⟨_, _, O5⟩, ⟨_, _, Q5⟩, ⟨_, _, CK5, (BW.kb0 (ks := ["cell"]) F10 fun _ _ _ _ _ _ ws h => match ws, h with | [_], _ => rfl)⟩, ⟨_, _, CT5, (BW.kb0 (ks := ["cell"]) F11 fun _ _ _ _ _ _ ws h => match ws, h with | [_], _ => rfl)⟩⟩
  have VR6 : Df l.prog w K mg base 6 "_law_value_right" ["_law_value_here", "_law_least", "_law_most"] spVR _ _ := ⟨ok_vright (k := 4) T VR F20, u20, m20, fk20⟩
  have X3 : Df l.prog w K mg base 3 "fixed" ["value"] spFix0 _ _ := ⟨ok_fix0 (k := 2) T F0 u0 m0 fk0, u0, m0, fk0⟩
  have X4 : Df l.prog w K mg base 4 "fixed" ["value"] spFix0 _ _ := ⟨ok_fix0 (k := 3) T F0 u0 m0 fk0, u0, m0, fk0⟩
  have Y4 : Df l.prog w K mg base 4 "fixed" ["value"] (spFixS PinK ResK) _ _ := ⟨ok_fixK (k := 2) T F0 X3, u0, m0, fk0⟩
  have Y5 : Df l.prog w K mg base 5 "fixed" ["value"] (spFixS PinK ResK) _ _ := ⟨ok_fixK (k := 3) T F0 X4, u0, m0, fk0⟩
  have Z5 : Df l.prog w K mg base 5 "fixed" ["value"] (spFixS PinT ResT) _ _ := ⟨ok_fixT (k := 3) T F0 Y4, u0, m0, fk0⟩
  have FT : Df l.prog w K mg base 6 "first_twice" ["values"] (spFirst K) _ _ := ⟨ok_first (k := 4) n_set Y5 Z5 F9, u9, m9, fk9⟩
  have D2 : Df l.prog w K mg base 2 "is_word" ["value"] (spK isWd) _ _ := ⟨ok_isword (k := 1) TWd F1, u1, m1, fk1⟩
  have TF : FnOk l.prog w K mg base (L2.CX l.prog w) 3 _ _ ["word"] (spTurn CB) := ok_turned (k := 0) TWd D2 F2
  have WR : Df l.prog w K mg base 6 "_law_words_right" ["_law_store_here"] (spWords [(Pt, qLam)]) _ _ := ⟨ok_words (k := 0) TWd xm TF u2 (BW.kb0 (ks := ["word"]) F2 fun _ _ _ _ _ _ ws h => match ws, h with | [_], _ => rfl) m2 fk2 N5 HD TB FW, uW, m22, fk22⟩
  have LW : Lw l.prog w K mg base 0 [(Pt, qLam)] := ⟨T, n_enumerate, n_sorted, ⟨_, _, Sd⟩, ⟨_, _, N6⟩, ⟨_, _, V6⟩, ⟨_, _, VR6⟩, ⟨_, _, FT, (BW.kb0 (ks := ["values"]) F9 fun _ _ _ _ _ _ ws h => match ws, h with | [_], _ => rfl)⟩, ⟨_, _, CK4⟩, ⟨_, _, WR⟩⟩
  exact ok_law LW F23

end K01
open PySem PySem.W PyProof.Rows
set_option maxRecDepth 100000 in
set_option maxHeartbeats 0 in
theorem PySem.Challenge.cw_borderwords_k01_checks_of_any_value_holds : PySem.Challenge.rw_borderwords_k01_checks_of_any_value.Holds := by
  w_on; o_law; k_head; (case hw => w_witness2)
  k_fill
  refine LamX.walk_ofTs (l := PySem.Challenge.rw_borderwords_k01_checks_of_any_value) (n := 63) (k := 7) (x := "_law_script") (CX := fun _ => L2.CX0) rfl (by decide) rfl ⟨rfl, by decide, by decide⟩ (fun w h Y => PySem.W.km_in_of Y) ?F (fun _ _ _ _ _ h => h)
  case F =>
    intro w mg fa h Y KX G hmg
    have hT8 := km_tabs_of Y
    refine' K01.all_mk (Pt := 186) KX G hmg ?qq_hT ?qq_nT ?qq_hh ?qq_a0 ?qq_o0 ?qq_r0 ?qq_b0 ?qq_i0 ?qq_l0 ?qq_d0 ?qq_k0 ?qq_t0 ?qq_xm ?qq_wa ?qq_wl ?qq_wz ?qq_wv ?qq_da ?qq_dl ?qq_dk ?qq_ds ?qq_g0 ?qq_y0 ?qq_g1 ?qq_y1 ?qq_g2 ?qq_y2 ?qq_g3 ?qq_y3 ?qq_g4 ?qq_y4 ?qq_g5 ?qq_y5 ?qq_g6 ?qq_y6 ?qq_g7 ?qq_y7 ?qq_zm ?qq_z_isinstance ?qq_z_int ?qq_z_str ?qq_z_bool ?qq_z_list ?qq_z_tuple ?qq_z_len ?qq_z_all ?qq_z_range ?qq_z_max ?qq_z_set ?qq_z_enumerate ?qq_z_sorted ?qq_z_abs ?qq_fa0 ?qq_fl0 ?qq_fc0 ?qq_fk0 ?qq_fa1 ?qq_fl1 ?qq_fc1 ?qq_fk1 ?qq_fa2 ?qq_fl2 ?qq_fc2 ?qq_fk2 ?qq_fa3 ?qq_fl3 ?qq_fc3 ?qq_fk3 ?qq_fa4 ?qq_fl4 ?qq_fc4 ?qq_fk4 ?qq_fa5 ?qq_fl5 ?qq_fc5 ?qq_fk5 ?qq_fa6 ?qq_fl6 ?qq_fc6 ?qq_fk6 ?qq_fa7 ?qq_fl7 ?qq_fc7 ?qq_fk7 ?qq_fa8 ?qq_fl8 ?qq_fc8 ?qq_fk8 ?qq_fa9 ?qq_fl9 ?qq_fc9 ?qq_fk9 ?qq_fa10 ?qq_fl10 ?qq_fc10 ?qq_fk10 ?qq_fa11 ?qq_fl11 ?qq_fc11 ?qq_fk11 ?qq_fa12 ?qq_fl12 ?qq_fc12 ?qq_fk12 ?qq_fa13 ?qq_fl13 ?qq_fc13 ?qq_fk13 ?qq_fa14 ?qq_fl14 ?qq_fc14 ?qq_fk14 ?qq_fa15 ?qq_fl15 ?qq_fc15 ?qq_fk15 ?qq_fa16 ?qq_fl16 ?qq_fc16 ?qq_fk16 ?qq_fa17 ?qq_fl17 ?qq_fc17 ?qq_fk17 ?qq_fa18 ?qq_fl18 ?qq_fc18 ?qq_fk18 ?qq_fa19 ?qq_fl19 ?qq_fc19 ?qq_fk19 ?qq_fa20 ?qq_fl20 ?qq_fc20 ?qq_fk20 ?qq_fa21 ?qq_fl21 ?qq_fc21 ?qq_fk21 ?qq_fa22 ?qq_fl22 ?qq_fc22 ?qq_fk22 ?qq_fa23 ?qq_fl23 ?qq_fc23 ?qq_fk23
    (case qq_hT => exact hT8 186 (by simp))
    (case qq_a0 => k_is)
    (case qq_o0 => k_is)
    (case qq_r0 => rfl)
    (case qq_b0 => kernel_rfl!)
    (case qq_i0 => k_is)
    (case qq_l0 => k_is)
    (case qq_d0 => k_is)
    (case qq_k0 => k_is)
    (case qq_t0 => k_is)
    (case qq_xm => kernel_rfl)
    (case qq_wa => k_is)
    (case qq_wl => k_is)
    (case qq_wz => decide)
    (case qq_wv => exact .cons ⟨_, rfl⟩ (.cons ⟨_, rfl⟩ (.cons ⟨_, rfl⟩ (.cons ⟨_, rfl⟩ (.cons ⟨_, rfl⟩ (.cons ⟨_, rfl⟩ (.cons ⟨_, rfl⟩ (.cons ⟨_, rfl⟩ .nil))))))))
    (case qq_da => k_is)
    (case qq_dl => k_is)
    (case qq_dk => exact ⟨⟨_, _, rfl, rfl⟩, ⟨_, _, rfl, rfl⟩, ⟨_, _, rfl, rfl⟩, ⟨_, _, rfl, rfl⟩, True.intro⟩)
    (case qq_ds => rfl)
    (case qq_g0 => k_is)
    (case qq_y0 => first | exact ⟨_, rfl⟩ | exact True.intro)
    (case qq_g1 => k_is)
    (case qq_y1 => first | exact ⟨_, rfl⟩ | exact True.intro)
    (case qq_g2 => k_is)
    (case qq_y2 => first | exact ⟨_, rfl⟩ | exact True.intro)
    (case qq_g3 => k_is)
    (case qq_y3 => first | exact ⟨_, rfl⟩ | exact True.intro)
    (case qq_g4 => k_is)
    (case qq_y4 => first | exact ⟨_, rfl⟩ | exact True.intro)
    (case qq_g5 => k_is)
    (case qq_y5 => first | exact ⟨_, rfl⟩ | exact True.intro)
    (case qq_g6 => k_is)
    (case qq_y6 => first | exact ⟨_, rfl⟩ | exact True.intro)
    (case qq_g7 => k_is)
    (case qq_y7 => first | exact ⟨_, rfl⟩ | exact True.intro)
    (case qq_zm => k_is)
    (case qq_z_isinstance => k_is)
    (case qq_z_int => k_is)
    (case qq_z_str => k_is)
    (case qq_z_bool => k_is)
    (case qq_z_list => k_is)
    (case qq_z_tuple => k_is)
    (case qq_z_len => k_is)
    (case qq_z_all => k_is)
    (case qq_z_range => k_is)
    (case qq_z_max => k_is)
    (case qq_z_set => k_is)
    (case qq_z_enumerate => k_is)
    (case qq_z_sorted => k_is)
    (case qq_z_abs => k_is)
    (case qq_fa0 => k_is)
    (case qq_fl0 => k_is)
    (case qq_fc0 => k_is)
    (case qq_fk0 => k_is)
    (case qq_fa1 => k_is)
    (case qq_fl1 => k_is)
    (case qq_fc1 => k_is)
    (case qq_fk1 => k_is)
    (case qq_fa2 => k_is)
    (case qq_fl2 => k_is)
    (case qq_fc2 => k_is)
    (case qq_fk2 => k_is)
    (case qq_fa3 => k_is)
    (case qq_fl3 => k_is)
    (case qq_fc3 => k_is)
    (case qq_fk3 => k_is)
    (case qq_fa4 => k_is)
    (case qq_fl4 => k_is)
    (case qq_fc4 => k_is)
    (case qq_fk4 => k_is)
    (case qq_fa5 => k_is)
    (case qq_fl5 => k_is)
    (case qq_fc5 => k_is)
    (case qq_fk5 => k_is)
    (case qq_fa6 => k_is)
    (case qq_fl6 => k_is)
    (case qq_fc6 => k_is)
    (case qq_fk6 => k_is)
    (case qq_fa7 => k_is)
    (case qq_fl7 => k_is)
    (case qq_fc7 => k_is)
    (case qq_fk7 => k_is)
    (case qq_fa8 => k_is)
    (case qq_fl8 => k_is)
    (case qq_fc8 => k_is)
    (case qq_fk8 => k_is)
    (case qq_fa9 => k_is)
    (case qq_fl9 => k_is)
    (case qq_fc9 => k_is)
    (case qq_fk9 => k_is)
    (case qq_fa10 => k_is)
    (case qq_fl10 => k_is)
    (case qq_fc10 => k_is)
    (case qq_fk10 => k_is)
    (case qq_fa11 => k_is)
    (case qq_fl11 => k_is)
    (case qq_fc11 => k_is)
    (case qq_fk11 => k_is)
    (case qq_fa12 => k_is)
    (case qq_fl12 => k_is)
    (case qq_fc12 => k_is)
    (case qq_fk12 => k_is)
    (case qq_fa13 => k_is)
    (case qq_fl13 => k_is)
    (case qq_fc13 => k_is)
    (case qq_fk13 => k_is)
    (case qq_fa14 => k_is)
    (case qq_fl14 => k_is)
    (case qq_fc14 => k_is)
    (case qq_fk14 => k_is)
    (case qq_fa15 => k_is)
    (case qq_fl15 => k_is)
    (case qq_fc15 => k_is)
    (case qq_fk15 => k_is)
    (case qq_fa16 => k_is)
    (case qq_fl16 => k_is)
    (case qq_fc16 => k_is)
    (case qq_fk16 => k_is)
    (case qq_fa17 => k_is)
    (case qq_fl17 => k_is)
    (case qq_fc17 => k_is)
    (case qq_fk17 => k_is)
    (case qq_fa18 => k_is)
    (case qq_fl18 => k_is)
    (case qq_fc18 => k_is)
    (case qq_fk18 => k_is)
    (case qq_fa19 => k_is)
    (case qq_fl19 => k_is)
    (case qq_fc19 => k_is)
    (case qq_fk19 => k_is)
    (case qq_fa20 => k_is)
    (case qq_fl20 => k_is)
    (case qq_fc20 => k_is)
    (case qq_fk20 => k_is)
    (case qq_fa21 => k_is)
    (case qq_fl21 => k_is)
    (case qq_fc21 => k_is)
    (case qq_fk21 => k_is)
    (case qq_fa22 => k_is)
    (case qq_fl22 => k_is)
    (case qq_fc22 => k_is)
    (case qq_fk22 => k_is)
    (case qq_fa23 => k_is)
    (case qq_fl23 => k_is)
    (case qq_fc23 => k_is)
    (case qq_fk23 => k_is)
    (case qq_nT => kernel_rfl)
    (case qq_hh => kernel_rfl)
#print axioms PySem.Challenge.cw_borderwords_k01_checks_of_any_value_holds
