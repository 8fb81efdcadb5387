import PyProof.Rows.All
import Wide.All
import OpenK.AllK
import Wide.FinOn
import KE.KIsAll
import KE.KTryMore
import HandS.Base
import HandS.Call
import HandS.List
import HandS.Exc
import HandS.ExcInit
import HandS.ForMost
import HandS.ExcField
import HandS.ExcIs
import HandS.IsInst
import HandS.Defaults
import HandS.MakeKw
import HandS.MakeKwOnly
import HandS.ExcValue
import KE.DataEq
import KE.KEqDict
import PyProof.InstEq
import HandS.Evl
import HandS.Style
import HandS.WordsDict
import HandS.Wide
import HandS.Codes
import HandS.FStr
import PySem.Challenge.RW_borderwords_k00_errors_keep_their_fields
set_option Elab.async false
set_option linter.all false
set_option maxRecDepth 100000
set_option maxHeartbeats 4000000
/-! Own exception classes over ValueError: instances held as values (made with or without keywords), their attributes, isinstance of them. -/
namespace BW
open PySem PySem.W PySem.Calls PySem.HandSPX

/-- a class object of an own exception class over ValueError, with the tail bm of its mro -/
def EClsAt (h : Heap) (C : Addr) (bm : List Value) : Prop :=
  ∃ nm q N bs hdct sn sub ab col dd k0 k1 k2 k3 k5, h.get? C = some (excClassObj nm q C N bs bm hdct sn sub ab col dd k0 k1 k2 k3 k5 "ValueError.__new__")

section
variable {prog : Program} {w : World} {A : Around} {R : Result → Shared → Prop} {hp : Heap} {gs : Array GenState} {dr : Drawn} {tk : Nat} {os : OsState} {C fI : Addr} {bm : List Value}
  {kw : List (Str × Value)} {rest : List Value}
theorem ex_new (hC : EClsAt hp C bm) (hm : refsVE bm = true) (hl : rest.length ≤ sizeLine)
    (hq : R (.ok (.ret (.ref (hp.objs.size + 1)))) ⟨(hp.push (kdv_tup rest)).push (excO C hp.objs.size), gs, dr, tk, os⟩) :
    codeAny (model prog w) A (.builtin "ValueError.__new__" ⟨.ref C :: rest, kw⟩) R ⟨hp, gs, dr, tk, os⟩ := by
  obtain ⟨nm, q, N, bs, hdct, sn, sub, ab, col, dd, k0, k1, k2, k3, k5, kC⟩ := hC
  have FB := PySem.F.excBase_ValueError
  have hends := FB.ends
  have in1 : (Value.ref C :: bm).contains (.type "ValueError") = true := by
    rw [List.contains_cons, refsVE_contains "ValueError" bm hm, FB.hasB, Bool.or_true]
  have in2 : (Value.ref C :: bm).contains (.type "AttributeError") = false := by
    rw [List.contains_cons, refsVE_contains "AttributeError" bm hm, FB.noAttr]
    rfl
  have in3 : (Value.ref C :: bm).contains (.type "NameError") = false := by
    rw [List.contains_cons, refsVE_contains "NameError" bm hm, FB.noName]
    rfl
  refine codeAny_builtinAt FB.entry ?_
  unfold Builtin.«BaseException.__new__»
  refine wpAt_bind ?_
  show wpAt _ _ _ (stack >>= _) _ _ _
  refine wpAt_bind (wpAt_stack fun p below => wpAt_of_wpAny ?_)
  wp_walk
  refine wpAt_of_wpAny ?_
  rw [FB.owner]
  repeat (first
    | with_reducible refine wpAny_madeHere_exc FB.canon kC ?_
    | with_reducible refine wpAny_loadPart_at kC ?_
    | (with_reducible refine wpAny_isSubtype_exc kC ?_
       first | rw [in1] | rw [in2] | rw [in3])
    | wp_step)
  show R _ _
  rw [Heap.size_push]
  exact hq
theorem ex_check {M : Model} {E : Value → Shared → Prop} {Q : Unit → Shared → Prop} (hC : EClsAt hp C bm) (hm : refsVE bm = true) (hq : Q () ⟨hp, gs, dr, tk, os⟩) :
    wpAny M A (checkBuiltinCall "ValueError.__new__" ⟨.ref C :: rest, kw⟩) Q E ⟨hp, gs, dr, tk, os⟩ := by
  obtain ⟨nm, q, N, bs, hdct, sn, sub, ab, col, dd, k0, k1, k2, k3, k5, kC⟩ := hC
  have FB := PySem.F.excBase_ValueError
  have in1 : (Value.ref C :: bm).contains (.type "ValueError") = true := by
    rw [List.contains_cons, refsVE_contains "ValueError" bm hm, FB.hasB, Bool.or_true]
  have hstar := FB.noStar
  simp only [checkBuiltinCall, FB.newKind, FB.newSplit, FB.newRow]
  repeat (first
    | refine wpAny_loadPart_at kC ?_
    | (refine wpAny_isSubtype_exc kC ?_
       rw [in1])
    | refine wpAny_staticBase_exc kC ?_
    | refine wpAny_madeBy_exc kC ?_
    | simp only [bne_self_eq_false, Bool.false_eq_true, if_false]
    | wp_step)
  exact hq
theorem ex_typecall {E : Value → Shared → Prop} {Q : Fin → Shared → Prop} (hC : EClsAt hp C bm) (hm : refsVE bm = true) (hl : rest.length ≤ sizeLine)
    (hi : Looks (model prog w) hp (typeLookup (.ref C) "__init__") (some (.ref fI))) (hb : ∀ self, Looks (model prog w) hp (bindSpecial (.ref fI) self) (.ref fI, [self]))
    (hq : codeAny (model prog w) A (.call (.ref fI) ⟨.ref (hp.objs.size + 1) :: rest, kw⟩)
      (fun r s' => match r with
        | .ok (.ret v) => v = .none ∧ Q (.done (.ret (.ref (hp.objs.size + 1)))) s'
        | .ok _ => False
        | .error e => E e s') ⟨(hp.push (kdv_tup rest)).push (excO C hp.objs.size), gs, dr, tk, os⟩) :
    wpAny (model prog w) A (Builtin.«type.__call__» ⟨.ref C :: rest, kw⟩) Q E ⟨hp, gs, dr, tk, os⟩ := by
  have HC := id hC
  obtain ⟨nm, q, N, bs, hdct, sn, sub, ab, col, dd, k0, k1, k2, k3, k5, kC⟩ := hC
  have FB := PySem.F.excBase_ValueError
  repeat (first
    | with_reducible refine wpAny_loadPart_at kC ?_
    | with_reducible refine wpAny_madeBy_exc kC ?_
    | wp_step)
  refine codeAny_call_builtin_code (Code.quiet_builtin _ FB.quiet) (ex_check HC hm ?_)
  refine ex_new HC hm hl ?_
  show wpAny _ _ _ _ _ _
  have kk : ∀ b o, hp.get? b = some o → ((hp.push (kdv_tup rest)).push (excO C hp.objs.size)).get? b = some o := fun b o e =>
    Heap.get?_push_of_some _ (Heap.get?_push_of_some _ e)
  have kC2 := kk _ _ kC
  have eget : ((hp.push (kdv_tup rest)).push (excO C hp.objs.size)).get? (hp.objs.size + 1) = some (excO C hp.objs.size) := by heap_get
  have inC : (Value.ref C :: bm).contains (.ref C) = true := by simp
  have i1 := hi.keeps kk
  have b1 := (hb (.ref (hp.objs.size + 1))).keeps kk
  unfold isInstance
  repeat (first
    | with_reducible refine wpAny_loadPart_at eget ?_
    | (with_reducible refine wpAny_isSubtype_exc kC2 ?_
       rw [inC])
    | wp_step)
  show wpAny _ _ (typeLookup (.ref C) _) _ _ _
  refine i1.at ?_
  refine wpAny_holding (wpAny_bind (b1.at ?_))
  refine wpAny_bind (wpAny_call (codeAny_mono hq fun r s' z => ?_))
  rcases r with e | (v | _ | _ | _) <;> (first | exact z | exact z.elim | skip)
  obtain ⟨rfl, z⟩ := z
  first
    | exact wpAny_pure (wpAny_pure z)
    | (wp_walk
       exact z)
theorem ex_tcheck {M : Model} {E : Value → Shared → Prop} {Q : Unit → Shared → Prop} (hC : EClsAt hp C bm) (hq : Q () ⟨hp, gs, dr, tk, os⟩) :
    wpAny M A (checkBuiltinCall "type.__call__" ⟨.ref C :: rest, kw⟩) Q E ⟨hp, gs, dr, tk, os⟩ := by
  obtain ⟨nm, q, N, bs, hdct, sn, sub, ab, col, dd, k0, k1, k2, k3, k5, kC⟩ := hC
  have f3 := tc_sub
  have tyC : (⟨hp, gs, dr, tk, os⟩ : Shared).TypeIs (.ref C) "type" := ⟨_, kC, rfl⟩
  simp only [checkBuiltinCall, tc_kind, tc_split]
  repeat (any_goals (first
    | assumption
    | with_reducible refine wpAny_loadPart_at kC ?_
    | with_reducible refine wpAny_onRaise ?_
    | with_reducible refine wpAny_map ?_
    | wp_step))
theorem ex_call (hC : EClsAt hp C bm) (hm : refsVE bm = true) (hl : rest.length ≤ sizeLine)
    (hi : Looks (model prog w) hp (typeLookup (.ref C) "__init__") (some (.ref fI))) (hb : ∀ self, Looks (model prog w) hp (bindSpecial (.ref fI) self) (.ref fI, [self]))
    (hq : codeAny (model prog w) (A.under (.builtin "type.__call__" ⟨.ref C :: rest, kw⟩)) (.call (.ref fI) ⟨.ref (hp.objs.size + 1) :: rest, kw⟩) (InitBack (hp.objs.size + 1) R)
      ⟨(hp.push (kdv_tup rest)).push (excO C hp.objs.size), gs, dr, tk, os⟩) : codeAny (model prog w) A (.call (.ref C) ⟨rest, kw⟩) R ⟨hp, gs, dr, tk, os⟩ := by
  have HC := id hC
  obtain ⟨nm, q, N, bs, hdct, sn, sub, ab, col, dd, k0, k1, k2, k3, k5, kC⟩ := hC
  have f1 := tc_lookup
  have f2 := tc_bind (.ref C)
  have f3 := tc_sub
  have tyC : (⟨hp, gs, dr, tk, os⟩ : Shared).TypeIs (.ref C) "type" := ⟨_, kC, rfl⟩
  refine codeAny_of_tree ?_
  show wpAny _ _ (callAny (.ref C) _) _ _ _
  repeat (any_goals (first
    | assumption
    | with_reducible refine wpAny_loadPart_at kC ?_
    | wp_step))
  refine ⟨rfl, ?_⟩
  refine codeAny_call_builtin_at (Code.quiet_builtin _ (by decide +kernel)) entry_typeCall (ex_tcheck HC (ex_typecall HC hm hl hi hb ?_))
  refine codeAny_mono hq fun r s' z => ?_
  rcases r with e | (v | _ | _ | _) <;> exact z
end
end BW
namespace BW
open PySem PySem.Spec PyProof.Rows L2

/-! ### an instance made: C(..), C(k = ..) -/
/-- what is asked where an exception is made, a value: sp of the new one and of what is written -/
def tMkV (C : Addr) (n m : Nat) (sp : Sp) (gV : List V → List V → List V) (t u : TA) : TE := fun σ H Q => t σ H fun vs H1 => u σ H1 fun zs H2 =>
  vs.length = n ∧ zs.length = m ∧ ∀ a, H2 a = none → sp (gV (.ref a :: vs) zs) (upd H2 a (exo a C none)) (fun v H3 => v = .non ∧ Q (.ref a) H3) E0
section
variable {X : Cx} {CX : CXT} {k n : Nat} {fI C : Addr} {fd : FuncData} {ps ks : List Str} {sp : Sp} {x : Str} {p pos : Pos} {e : Expr} {es : List Expr} {kws : List Keyword} {t u : TA} {g : List Value → List Value → List Value} {gV : List V → List V → List V}
theorem run_mkV {pins : List (Addr × Obj)} {σ : L2.St} {H : Hp} {s : Shared} {Q : VK} {us ws : List Value} {vs zs : List V} (T : OexC X.K C) (iC : PySem.W.findIn X.K (.ref C) "__init__" = some (some (.ref fI)))
    (tI : PySem.W.typeIn X.K (.ref fI) = some (.type "function")) (F1 : FnOk X.prog X.w X.K X.mg X.base CX k fI fd ps sp) (hr : Room (k + 1) X.A) (hb : KBn X.K fd ps (n + 1) ks g gV) (hx : Passes CX X E0) (hn : n ≤ 1000)
    (I : Inv X pins σ H s) (r : Vals vs us) (rz : Vals zs ws) (l1 : vs.length = n) (l2 : zs.length = ks.length)
    (h : ∀ a, H a = none → sp (gV (.ref a :: vs) zs) (upd H a (exo a C none)) (fun v H3 => v = .non ∧ Q (.ref a) H3) E0) : wpAny (model X.prog X.w) X.A (call (.ref C) us (ks.zip ws)) (EP X pins σ Q) X.xe s := by
  obtain ⟨nm, q, N, bs, bm, sn, sub, ab, col, dd, k0, k1, k2, k3, k5, hC, hbm⟩ := T.cls
  have kC := I.kIn _ _ hC
  have I0 := I
  obtain ⟨hp, gs, dr, tk, os⟩ := s
  have hsz : hp.objs.size ≤ hp.objs.size + 1 := Nat.le_succ _
  have hq := h (hp.objs.size + 1) (I.hok.fresh hsz)
  have kk : ∀ b o, hp.get? b = some o → ((hp.push (PySem.W.kdv_tup us)).push (PySem.HandSPX.excO C hp.objs.size)).get? b = some o := fun b o e => Heap.get?_push_of_some _ (Heap.get?_push_of_some _ e)
  have eget : ((hp.push (PySem.W.kdv_tup us)).push (PySem.HandSPX.excO C hp.objs.size)).get? (hp.objs.size + 1) = some (PySem.HandSPX.excO C hp.objs.size) := by heap_get
  have I2 : Inv X pins σ (upd H (hp.objs.size + 1) (exo (hp.objs.size + 1) C none)) ⟨(hp.push (PySem.W.kdv_tup us)).push (PySem.HandSPX.excO C hp.objs.size), gs, dr, tk, os⟩ :=
    I.laid (t' := tk) kk hsz (exo_ok eget)
  have r1 : Vals (V.ref (hp.objs.size + 1) :: vs) (Value.ref (hp.objs.size + 1) :: us) := .cons rfl r
  have r2 := hb.rel r1 rz
  have e1 : (Value.ref (hp.objs.size + 1) :: us).length = n + 1 := by
    rw [List.length_cons, ← r.length, l1]
  have e2 : ws.length = ks.length := rz.length.symm.trans l2
  have hus : us.length ≤ sizeLine := by
    rw [← Paired.length r, sizeLine_eq]
    omega
  refine wpAny_call (ex_call ⟨nm, q, N, bs, true, sn, sub, ab, col, dd, k0, k1, k2, k3, k5, kC⟩ hbm hus (PySem.W.looks_findIn I0.kIn iC) (fun self => PySem.W.bind_fn I0.kIn self tI)
    (codeAny_mono (F1.run _ X.stack _ _ ⟨Value.ref (hp.objs.size + 1) :: us, ks.zip ws⟩ (g (Value.ref (hp.objs.size + 1) :: us) ws) _ _ E0 (hr.make C us (ks.zip ws))
      (I2.env0.make C us (ks.zip ws)) (hb.to _ (Value.ref (hp.objs.size + 1) :: us) ws I2.kIn e1 e2) r2 hq) fun r s' hq' => ?_))
  cases r with
  | error er => exact hx pins σ _ _ er s' I2 hq'
  | ok fl =>
    cases fl with
    | ret u =>
      obtain ⟨v, H', I3, rv, ev, q3⟩ := I2.after hq'
      subst ev
      exact ⟨rv, ⟨V.ref (hp.objs.size + 1), H', I3, rfl, q3⟩⟩
    | next => exact False.elim hq'
    | brk => exact False.elim hq'
    | cont => exact False.elim hq'
/-- C(e, ..) -/
theorem pe_mkV (T : OexC X.K C) (iC : PySem.W.findIn X.K (.ref C) "__init__" = some (some (.ref fI))) (tI : PySem.W.typeIn X.K (.ref fI) = some (.type "function")) (F1 : FnOk X.prog X.w X.K X.mg X.base CX k fI fd ps sp)
    (hr : Room (k + 1) X.A) (hb : KBn X.K fd ps (n + 1) [] g gV) (hx : Passes CX X E0) (hn : n ≤ 1000) (hg : Gl X x) (hm : X.mg x = some (.ref C)) (ha : PA X (e :: es) t)
    (hdb : (x == ("__debug__" : Str)) = false := by decide) (he : starEach (e :: es) X.env = (false, eval e X.env) :: starEach es X.env := by rfl) (hpl : (backTo pos (starEach es X.env)).any (·.1) = false := by rfl) :
    PE X (.Call (.Name x p) (e :: es) [] pos) (tMkV C n 0 sp gV t tNil) := by
  refine ⟨fun pins s σ H Q I h => ?_⟩
  refine wpAny_Call_Name_kw (ld_glob I hg hm ?_ hdb)
  refine PySem.W.callWith_K (h₀ := X.base) I.ok.mod.kin T.kC (thn (ha.run pos pins s σ H _ I h) fun us s1 hh => ?_) he hpl
  obtain ⟨vs, H1, I1, r1, l1, l2, q1⟩ := hh
  exact ⟨I1.kIn, run_mkV (ks := []) (ws := []) (zs := []) T iC tI F1 hr hb hx hn I1 r1 .nil l1 rfl q1⟩
/-- C(k = e, ..) -/
theorem pe_mkVk (T : OexC X.K C) (iC : PySem.W.findIn X.K (.ref C) "__init__" = some (some (.ref fI))) (tI : PySem.W.typeIn X.K (.ref fI) = some (.type "function")) (F1 : FnOk X.prog X.w X.K X.mg X.base CX k fI fd ps sp)
    (hr : Room (k + 1) X.A) (hb : KBn X.K fd ps 1 ks g gV) (hx : Passes CX X E0) (hg : Gl X x) (hm : X.mg x = some (.ref C)) (hkw : PK X kws u)
    (hall : (backToKw pos (keywordEach kws X.env)).all (·.1.isSome) = true := by rfl) (hks : (backToKw pos (keywordEach kws X.env)).filterMap (·.1) = ks := by rfl) (hdb : (x == ("__debug__" : Str)) = false := by decide)
    (hpl : ((backTo pos (starEach [] X.env)).any (·.1) || (backToKw pos (keywordEach kws X.env)).any (·.1.isNone)) = false := by rfl) :
    PE X (.Call (.Name x p) [] kws pos) (tMkV C 0 ks.length sp gV tNil u) := by
  refine ⟨fun pins s σ H Q I h => ?_⟩
  refine wpAny_Call_Name_kw (ld_glob I hg hm ?_ hdb)
  refine PySem.W.callWith_KW0 (h₀ := X.base) I.ok.mod.kin T.kC hall ?_ hpl
  refine thn (hkw.run pos pins s σ H _ I h) fun ws s2 hh => ?_
  obtain ⟨zs, H2, I2, rz, l1, l2, q2⟩ := hh
  refine ⟨I2.kIn, ?_⟩
  rw [hks]
  exact run_mkV (us := []) (vs := []) T iC tI F1 hr hb hx (Nat.zero_le _) I2 .nil rz rfl l2 q2
end

/-! ### an attribute of an instance -/
def tXA (K : PySem.W.Frag) (f : Str) (te : TE) : TE := fun σ H Q => te σ H fun x H1 => ∃ (a C d : Addr) (fs : List (Str × V)) (v : V),
  x = .ref a ∧ H1 a = some (exo a C (some d)) ∧ H1 d = some (exd d fs) ∧ XfC K C ∧ PySem.W.findIn K (.ref C) f = some none ∧ fs.lookup f = some v ∧ Q v H1
theorem pe_xa {X : Cx} {e : Expr} {te : TE} {pos : Pos} {f : Str} (he : PE X e te) (hb : attributeBase e f X.env (eval e X.env) = eval e X.env := by rfl) : PE X (.Attribute e f pos) (tXA X.K f te) := by
  refine ⟨fun pins s σ H Q I h => ?_⟩
  refine attr_of hb (thn (he.run pins s σ H _ I h) fun u s1 hh => ?_)
  obtain ⟨x, H1, I1, rx, a, C, d, fs, v, ex, ea, ed, T, hno, hl, q⟩ := hh
  subst ex
  obtain rfl : u = Value.ref a := rx
  obtain ⟨t1, ho⟩ := exo_at I1.hok ea
  obtain ⟨mA, hns, rel⟩ := exd_at I1.hok ed
  obtain ⟨od, hod, hlk⟩ := lookIn_ns hns
  obtain ⟨u, hu, ru⟩ := RelO.some_of (v := v) (o := mA f) (by rw [← hl]; exact rel f)
  exact HandSPX.exc_get I1.kIn (od := some od) ⟨ho, rfl, rfl, hod⟩ T.ga T.gg T.exC (PySem.W.findObj_own T.hdC hno rfl (by rw [hlk, hu])) (handed_of ru) ⟨v, H1, I1.tok _, ru, q⟩

/-! ### isinstance of an instance -/
open PySem.W PySem.Calls in
theorem get_class {prog : Program} {w : World} {A : Around} {E : Value → Shared → Prop} {K : PySem.W.Frag} {x D : Addr} {ox od : Obj} {s : Shared} {Q : Option Value → Shared → Prop} (T : ExcC K D)
    (X : K.In s.heap) (I : PySem.W.InstAt s.heap x ox D (some od)) (h : Q (some (.ref D)) { s with toks := s.toks + 1 }) : wpAny (model prog w) A (getAttr? (.ref x) "__class__") Q E s := by
  have hf : findObj K D (some od) "__class__" = some (.bind (.builtin "getset_descriptor.__get__") (.builtin "object.__class__")) := findObj_data (by
    obtain ⟨cd, hc, _⟩ := any_some T.hd
    rw [hc]
    rfl) T.ha T.hn T.ht
  obtain ⟨hp, gs, dr, tk, os⟩ := s
  have a0 := I.type (M := model prog w)
  have a1 := looks_findIn (M := model prog w) X T.hg
  have a2 := looks_findIn (M := model prog w) X T.hk
  have a3 := looks_find (M := model prog w) X I hf
  have isB : Looks (model prog w) hp (isInstance (.ref x) (.type "BaseException")) true := a0.andThen (looks_subIn X T.hs)
  have ne2 : (Value.builtin "BaseException.__getattribute__" == Value.builtin "object.__getattribute__") = false := by decide +kernel
  have ne0 : (false && onTheHeap (Value.builtin "BaseException.__getattribute__")) = false := rfl
  have ne1 : (onTheHeap (Value.ref D) && Value.builtin "BaseException.__getattribute__" == Value.builtin "object.__getattribute__") = false := by
    rw [ne2]
    rfl
  unfold getAttr? getAttrBy? getAttrBy
  refine wpAny_bind (wpAny_mkText (wpAny_bind (wpAny_attempt (wpAny_holding (wpAny_bind (a0.at (wpAny_bind (a1.at ?_))))))))
  show wpAny _ _ (ite (_ = true) _ _) _ _ _
  rw [ne1, if_neg Bool.false_ne_true]
  unfold getAttrByItsOwn hookBefore
  refine wpAny_bind ?_
  rw [if_pos (show onTheHeap (Value.ref D) = true from rfl)]
  refine a2.at ?_
  refine wpAny_bind (wpAny_attempt (wpAny_holding ?_))
  unfold callGetattribute
  rw [ne0, if_neg Bool.false_ne_true]
  unfold boundAndCalled
  rw [PySem.F.excAttr_ValueError.ga.bind (.ref x)]
  refine wpAny_bind (wpAny_pure ?_)
  show wpAny _ _ (call (.builtin "BaseException.__getattribute__") [.ref x, .str "__class__" tk]) _ _ _
  refine wpAny_call (codeAny_call_builtin PySem.F.excAttr_ValueError.ga.plain PySem.F.entry_bexc_ga ?_)
  refine @check_slot (model prog w) _ _ ⟨hp, gs, dr, tk + 1, os⟩ "BaseException.__getattribute__" "BaseException" "__getattribute__" (.ref x) [.str "__class__" tk] [] _ (by decide +kernel) (by decide +kernel)
    isB (PySem.F.args_bexc_ga (.ref x) (.str "__class__" tk)) ?_
  unfold Builtin.«object.__getattribute__»
  refine wpAny_bind (wpAny_of_eq (a := ((Value.ref x : Value), [Value.str "__class__" tk])) (by first | rfl | (simp only [slotArgs]; rfl)) ?_)
  refine wpAny_bind (wpAny_pure (wpAny_bind (a0.at (wpAny_bind (a3.at ?_)))))
  show wpAny _ _ (holding [Value.builtin "object.__class__"] (call (.builtin "getset_descriptor.__get__") [.builtin "object.__class__", .ref x, .ref D]) >>= ret) _ _ _
  refine wpAny_bind (wpAny_holding (wpAny_call (class_get (s := ⟨hp, gs, dr, tk + 1, os⟩) (ox := ox) (od := some od) X I T.hm ?_)))
  refine wpAny_pure ?_
  show wpAny _ _ (handedOut (.ref D)) _ _ _
  rw [handedOut_of (v := .ref D) rfl]
  first
    | exact wpAny_pure (wpAny_pure h)
    | exact wpAny_pure h
    | exact wpAny_pure (wpAny_bind (wpAny_pure (wpAny_pure h)))
theorem cls_at {K : PySem.W.Frag} {D : Addr} (T : ExcC K D) : ∃ (_ : Unit) (o : Value × Option Addr × ClassData × Array (Option Value)), K.lookup D = some ⟨o.1, o.2.1, .cls o.2.2.1, o.2.2.2⟩ := by
  obtain ⟨cd, hc, _⟩ := PySem.W.any_some T.hd
  unfold PySem.W.clsIn at hc
  split at hc
  · rename_i c' d' cd' sl' ho
    exact ⟨(), (c', d', cd', sl'), ho⟩
  · cases hc
theorem kitx_inst {K : PySem.W.Frag} {x D : Addr} {ox od : Obj} (T : ExcC K D) : PySem.W.KitX K (.ref x) (.ref D) (fun h => PySem.W.InstAt h x ox D (some od)) where
  ty := fun _ _ _ I => I.type
  it := fun _ _ X _ => by
    obtain ⟨_, o, hl⟩ := cls_at T
    intro A' Q' E' s' k q
    unfold isType loadHead
    exact wpAny_bind (wpAny_loadPart (k _ _ (X _ _ hl)) (wpAny_pure q))
  ne := fun h tp dd its n sl X htp => by
    obtain ⟨_, ⟨c1, c2, c3, c4⟩, hl⟩ := cls_at T
    refine Bool.eq_false_iff.mpr fun q => ?_
    obtain rfl : D = tp := Value.ref.inj (beq_iff_eq.mp q)
    cases (X _ _ hl).symm.trans htp
  ca := fun X I k => get_class T X I k
/-- isinstance(e, c), e an instance with its dict, c one class -/
def rIsX (K : PySem.W.Frag) : List V → Hp → VK → Prop := fun xs H Q => ∃ (a C d : Addr) (fs : List (Str × V)) (c : V) (cv : Value) (b : Bool),
  xs = [.ref a, c] ∧ H a = some (exo a C (some d)) ∧ H d = some (exd d fs) ∧ ExcC K C ∧ ClsV c cv ∧ PySem.W.kitOne K (.ref C) cv = some b ∧ Q (.bl b) H
/-- c a tuple of classes that was just laid -/
def rIsXT (K : PySem.W.Frag) : List V → Hp → VK → Prop := fun xs H Q => ∃ (a C d : Addr) (fs : List (Str × V)) (tp : Addr) (cs : List V) (us : List Value) (b : Bool),
  xs = [.ref a, .ref tp] ∧ H a = some (exo a C (some d)) ∧ H d = some (exd d fs) ∧ ExcC K C ∧ H tp = some (.tup cs) ∧ Paired ClsV cs us ∧ PySem.W.kitAny K (.ref C) us = some b ∧ Q (.bl b) H
section
variable {X : Cx}
theorem inst_at {pins : List (Addr × Obj)} {σ : L2.St} {H : Hp} {s : Shared} {a C d : Addr} {fs : List (Str × V)} (I : Inv X pins σ H s) (ea : H a = some (exo a C (some d))) (ed : H d = some (exd d fs)) :
    ∃ ox od : Obj, PySem.W.InstAt s.heap a ox C (some od) := by
  obtain ⟨t1, ho⟩ := exo_at I.hok ea
  obtain ⟨mA, hns, rel⟩ := exd_at I.hok ed
  obtain ⟨od, hod, _⟩ := lookIn_ns hns
  exact ⟨_, od, ho, rfl, rfl, hod⟩
theorem call_isX : CallR X (.builtin "isinstance") (rIsX X.K) := by
  intro pins s σ H xs us Q I r h
  obtain ⟨a, C, d, fs, c, cv, b, rfl, ea, ed, T, k, e, q⟩ := h
  obtain ⟨u1, u2, rfl, r1, r2⟩ := vals2 r
  obtain rfl := k.eq r2
  cases (show u1 = Value.ref a from r1)
  obtain ⟨ox, od, J⟩ := inst_at I ea ed
  exact PySem.W.kia_one (kitx_inst T) I.kIn J e (fun z => nomatch z) fun tk => ⟨.bl b, H, I.tok tk, rfl, q⟩
theorem call_isXT : CallR X (.builtin "isinstance") (rIsXT X.K) := by
  intro pins s σ H xs us Q I r h
  obtain ⟨a, C, d, fs, tp, cs, ws, b, rfl, ea, ed, T, hT, k, e, q⟩ := h
  obtain ⟨u1, u2, rfl, r1, r2⟩ := vals2 r
  cases (show u1 = Value.ref a from r1)
  cases (show u2 = Value.ref tp from r2)
  obtain ⟨ox, od, J⟩ := inst_at I ea ed
  have hx : ObjOk X.prog X.w H s.heap tp (.tup cs) := I.hok tp _ hT
  obtain ⟨_, its, rv, ot, g1, g2, n, g3⟩ := hx
  obtain rfl := ClsV.all k rv
  obtain ⟨oc, dd, dt, sl⟩ := ot
  dsimp only at g2 g3
  subst g2
  subst g3
  exact PySem.W.kia_tup (kitx_inst T) I.kIn J g1 e (fun z => nomatch z) fun tk => ⟨.bl b, H, I.tok tk, rfl, q⟩
end
end BW
/-! x != x is False: of scalars, lists, tuples, dicts, instances of own errors. -/
namespace BW
open PySem

theorem eq_self_at (A : Around) (s : Shared) (v : Value) : SeqAt.EqAt A s v v true := fun prog w E Q hq => by
  unfold eqBool
  refine wpAny_holding ?_
  rw [if_pos (beq_self_eq_true v)]
  first
    | exact wpAny_bind (wpAny_rule (wpAny_pure hq))
    | exact wpAny_bind (wpAny_pure (wpAny_pure hq))
    | exact wpAny_rule (wpAny_pure hq)

/-- what the class of an own error must have for == and != of its instances to be by identity -/
structure ExcNe (K : PySem.W.Frag) (C : Addr) : Prop where
  eq : PySem.W.findIn K (.ref C) "__eq__" = some (some (.builtin "object.__eq__"))
  ne : PySem.W.findIn K (.ref C) "__ne__" = some (some (.builtin "object.__ne__"))
  ob : PySem.W.mroIn K C (.type "object") = some true

section
open PySem.W PySem.Calls
variable {prog : Program} {w : World} {A : Around} {E : Value → Shared → Prop} {K : Frag} {x C : Addr} {ox : Obj} {od : Option Obj} {s : Shared}
theorem special_at {name : Str} {id : String} {args : List Value} {Q : Option Value → Shared → Prop} (X : K.In s.heap) (I : InstAt s.heap x ox C od) (hf : findIn K (.ref C) name = some (some (.builtin id)))
    (hb : bindSpecial (.builtin id) (.ref x) = pure (.builtin id, [.ref x])) (hq : wpAny (model prog w) A (call (.builtin id) (.ref x :: args)) (fun v => Q (some v)) E s) :
    wpAny (model prog w) A (callSpecialIfBound? (.ref x) name args) Q E s := by
  simp only [callSpecialIfBound?, bindSpecialIfBound?]
  have a0 := I.type (M := model prog w)
  have a1 := looks_findIn (M := model prog w) X hf
  refine wpAny_holding (wpAny_bind (wpAny_bind ?_))
  unfold specialOf
  refine wpAny_bind (a0.at ?_)
  refine a1.at ?_
  simp only [hb]
  refine wpAny_bind (wpAny_askSetting (wpAny_ite ?_))
  have fin : wpAny (model prog w) A (call (.builtin id) ([.ref x] ++ args) >>= fun v => pure (some v)) Q E s :=
    wpAny_bind (wpAny_mono hq (fun v s' h' => wpAny_pure h') fun _ _ h' => h')
  split
  · exact wpAny_bind (wpAny_pure (wpAny_pure fin))
  · exact wpAny_tryCatch (wpAny_bind (wpAny_pure (wpAny_pure fin)))
theorem isObj_at (X : K.In s.heap) (I : InstAt s.heap x ox C od) (hm : mroIn K C (.type "object") = some true) : Looks (model prog w) s.heap (isInstance (.ref x) (.type "object")) true :=
  I.type.andThen (looks_mroIn X hm)
theorem call_eq_self {Q : Value → Shared → Prop} (T : ExcNe K C) (X : K.In s.heap) (I : InstAt s.heap x ox C od) (hq : Q (.bool true) s) : wpAny (model prog w) A (call (.builtin "object.__eq__") [.ref x, .ref x]) Q E s := by
  refine wpAny_call (codeAny_call_builtin F.cmp_object.eq.plain F.cmpEntry_eq ?_)
  exact @check_slot (model prog w) _ _ s "object.__eq__" "object" "__eq__" (.ref x) [.ref x] [] _ F.cmpKind_eq F.cmpSplit_eq (isObj_at X I T.ob) (F.cmpArgs_eq _ _) (objEq_entry_same hq)
theorem call_ne_self {Q : Value → Shared → Prop} (T : ExcNe K C) (X : K.In s.heap) (I : InstAt s.heap x ox C od) (hu : A.units + 1 < cLine) (hq : Q (.bool false) s) :
    wpAny (model prog w) A (call (.builtin "object.__ne__") [.ref x, .ref x]) Q E s := by
  have hu' : A.in1.units < cLine := hu
  refine wpAny_call (codeAny_call_builtin F.cmp_object.ne.plain F.cmpEntry_ne ?_)
  refine @check_slot (model prog w) _ _ s "object.__ne__" "object" "__ne__" (.ref x) [.ref x] [] _ F.cmpKind_ne F.cmpSplit_ne (isObj_at X I T.ob) (F.cmpArgs_ne _ _) ?_
  unfold Builtin.«object.__ne__»
  repeat (first
    | with_reducible refine wpAny_cRoomFor hu' ?_
    | with_reducible refine special_at X I T.eq (F.cmp_object.eq.bind (.ref x)) (call_eq_self T X I ?_)
    | wp_step)
  exact hq
theorem ne_self_inst {Q : Value → Shared → Prop} (T : ExcNe K C) (X : K.In s.heap) (I : InstAt s.heap x ox C od) (hu : A.units + 1 < cLine) (hq : Q (.bool false) s) :
    wpAny (model prog w) A (compareOp .NotEq (.ref x) (.ref x)) Q E s := by
  have hu0 : A.units < cLine := Nat.lt_of_succ_lt hu
  have a0 := I.type (M := model prog w)
  show wpAny _ _ (richCompare .NotEq (.ref x) (.ref x)) _ _ _
  simp only [richCompare, cmpInfo_NotEq, oneThing_ref]
  refine wpAny_holding (wpAny_bind (wpAny_cRoomFor hu0 ?_))
  refine wpAny_bind (a0.at (wpAny_bind (a0.at ?_)))
  rw [if_neg (by simp)]
  refine wpAny_bind (wpAny_pure ?_)
  simp only [Bool.false_eq_true, if_false]
  unfold tryCompare
  refine wpAny_bind (wpAny_bind (special_at X I T.ne (F.cmp_object.ne.bind (.ref x)) (call_ne_self T X I hu ?_)))
  exact wpAny_pure (wpAny_pure hq)
end

/-! ### the rule -/
open PySem.Spec PyProof.Rows L2
theorem all_yes : ∀ l : List Nat, (l.all fun _ => true) = true
  | [] => rfl
  | _ :: l => all_yes l
/-- a value that is not unequal to itself -/
inductive SelfNe (K : PySem.W.Frag) (H : Hp) : V → Prop where
  | flat {x : V} (h : scal x x = true) : SelfNe K H x
  | lst {a : Addr} {xs : List V} (h : H a = some (.lst xs)) : SelfNe K H (.ref a)
  | tup {a : Addr} {xs : List V} (h : H a = some (.tup xs)) : SelfNe K H (.ref a)
  | dict {a : Addr} {k : Key} {x : V} (h : H a = some (.dK [(k, x)])) : SelfNe K H (.ref a)
  | err {a C d : Addr} {fs : List (Str × V)} (h : H a = some (exo a C (some d))) (h' : H d = some (exd d fs)) (T : ExcNe K C) : SelfNe K H (.ref a)
theorem SelfNe.same {K : PySem.W.Frag} {H H' : Hp} {x : V} (e : Same H H') (h : SelfNe K H x) : SelfNe K H' x := by
  cases h with
  | flat h => exact .flat h
  | lst h => exact .lst (e _ _ h)
  | tup h => exact .tup (e _ _ h)
  | dict h => exact .dict (e _ _ h)
  | err h h' T => exact .err (e _ _ h) (e _ _ h') T
def rNeS (K : PySem.W.Frag) : R2 := fun x y H Q => x = y ∧ SelfNe K H x ∧ Q (.bl false) H
theorem op_neS {X : Cx} (hu : X.A.units + 1 < cLine) : OpR X (compareOp .NotEq) (rNeS X.K) := by
  intro pins s σ H x y v u Q I rx ry h
  obtain ⟨rfl, hx, q⟩ := h
  have hu0 : X.A.units < cLine := Nat.lt_of_succ_lt hu
  have fin : EP X pins σ Q (.bool false) s := ⟨.bl false, H, I, rfl, q⟩
  cases hx with
  | flat h => exact op_ne pins s σ H x x v u Q I rx ry ⟨h, by rw [decide_eq_true rfl]; exact q⟩
  | @lst a xs h =>
    cases (show v = Value.ref a from rx)
    cases (show u = Value.ref a from ry)
    have hz : ObjOk X.prog X.w H s.heap a (.lst xs) := I.hok a _ h
    obtain ⟨_, its, n, _, e⟩ := hz
    have hl : s.heap.IsList a its.toArray := ⟨_, e, rfl, n, rfl⟩
    have z := SeqAt.RcNeAt.lists hl hl rfl hu0 (e := fun _ => true) fun j _ _ => eq_self_at _ _ _
    exact z _ _ _ _ (by rw [all_yes]; exact fin)
  | @tup a xs h =>
    cases (show v = Value.ref a from rx)
    cases (show u = Value.ref a from ry)
    have hz : ObjOk X.prog X.w H s.heap a (.tup xs) := I.hok a _ h
    obtain ⟨_, its, _, o, e, ec, n, ed⟩ := hz
    have hl : s.heap.IsTuple a its.toArray := ⟨o, e, ec, n, ed⟩
    have z := SeqAt.RcNeAt.tuples hl hl hu0 (e := fun _ => true) fun j _ _ => eq_self_at _ _ _
    exact z _ _ _ _ (by rw [all_yes, beq_self_eq_true]; exact fin)
  | @dict a k x h =>
    cases (show v = Value.ref a from rx)
    cases (show u = Value.ref a from ry)
    have hz : ObjOk X.prog X.w H s.heap a (.dK [(k, x)]) := I.hok a _ h
    obtain ⟨_, ya, vs, rv, dv⟩ := hz
    cases rv with
    | cons r1 r2 =>
      rename_i p ps
      obtain ⟨k', u'⟩ := p
      obtain ⟨rfl, _⟩ := r1
      cases r2
      refine PySem.W.keq_ne (knd := mixKind X.prog X.w) (r := true) ya ya dv dv hu0 (fun _ => ?_) (by simpa using fin)
      have hh := PySem.W.KeqHits.hit (A := X.A.in1) (s := s) (kb := [(k, u')]) (k := k) (v := u') (y := u') (r := []) (e := true) (b := true) (by simp [valueAt]) (eq_self_at _ _ _) .nil
      exact hh
  | @err a C d fs h h' T =>
    cases (show v = Value.ref a from rx)
    cases (show u = Value.ref a from ry)
    obtain ⟨ox, od, J⟩ := inst_at I h h'
    exact ne_self_inst T I.kIn J hu fin
end BW
/-! List comprehensions whose elements change nothing that is known; a pen. -/
namespace BW
open PySem PySem.Spec PyProof.Rows L2

theorem same_new {H : Hp} {p : Addr} {o : HO} (h : H p = none) : Same H (upd H p o) := fun b x e => by
  rw [upd_ne (ne_of_none e h)]
  exact e
theorem same_over {H H' : Hp} {p : Addr} {o : HO} (h : H p = none) (e : Same H H') : Same H (upd H' p o) := fun b x q => by
  rw [upd_ne (ne_of_none q h)]
  exact e _ _ q
theorem _root_.L2.Same.seqT {K : PySem.W.Frag} {H H' : Hp} {a : Addr} {xs : List V} (e : Same H H') (h : SqT K H a xs) : SqT K H' a xs := by
  rcases h with (h | ⟨o, h⟩) | h
  · exact .inl (.inl (e _ _ h))
  · exact .inl (.inr ⟨o, e _ _ h⟩)
  · exact .inr h
theorem take_up {α : Type} {l : List α} {i : Nat} {x : α} (h : l[i]? = some x) : l.take (i + 1) = l.take i ++ [x] := by
  rw [List.take_add_one, h]
  rfl
theorem get_of {α β : Type} {xs : List α} {ys : List β} {i : Nat} {x : α} (hl : ys.length = xs.length) (h : xs[i]? = some x) : ∃ y, ys[i]? = some y := by
  have hi : i < ys.length := by
    rw [hl]
    exact (List.getElem?_eq_some_iff.mp h).1
  exact ⟨_, List.getElem?_eq_getElem hi⟩
theorem small_of {n : Nat} (h : n < 100000) : n < sizeLine := Nat.lt_of_lt_of_le h (by decide)

/-- the body of a comprehension at one item: gives y, whatever else is known -/
def Gives (te : TE) (σ : L2.St) (H1 : Hp) (y : V) : Prop := ∀ H, Same H1 H → ∀ Q : VK, (∀ H', Same H H' → Q y H') → te σ H Q
section
variable {K : PySem.W.Frag} {a : Addr} {xs ys : List V} {i0 : Nat} {te : TE} {vs : List Nat} {σ : L2.St} {H1 : Hp} {D : Addr} {Qd : Hp → Prop}
theorem lc_mapL (hl : SqL K H1 a xs) (hD : H1 D = none) (len : ys.length = xs.length) (lt : xs.length < 100000) (hw : ∀ x, wipe ((wipe σ vs).set i0 (some x)) vs = wipe σ vs)
    (hs : ∀ (i : Nat) (x y : V), xs[i]? = some x → ys[i]? = some y → Gives te ((wipe σ vs).set i0 (some x)) H1 y) (hd : ∀ H, Same H1 H → H D = some (.lst ys) → Qd H) :
    ∃ W : Nat → Nat → Hp → Prop, (∃ m, W 0 m (upd H1 D (.lst []))) ∧ ∀ i m H, W i m H →
      ((Itl K a).stop i H ∧ Qd H) ∨ ((Itl K a).go i H ∧ ∃ Nx : Hp → Prop, (∀ H', Nx H' → ∃ m', m' < m ∧ W (i + 1) m' H') ∧ ∀ x H', (Itl K a).yld i H x H' → gName i0 x (wipe σ vs) H' fun σ2 H2 => wipe σ2 vs = wipe σ vs ∧ tYes σ2 H2 fun b H3 =>
        if b = true then te σ2 H3 fun y H4 => ∃ acc, H4 D = some (.lst acc) ∧ acc.length < sizeLine ∧ Nx (upd H4 D (.lst (acc ++ [y]))) else Nx H3) := by
  refine lc_list (K := K) (a := a) (xs := xs) (fun i H => Same H1 H ∧ H D = some (.lst (ys.take i))) ⟨same_new hD, upd_same⟩ (fun i H _ hp => hp.1.seq hl) (fun i x H hx hp => ?_) (fun H hp => ?_)
  · obtain ⟨y, hy⟩ := get_of len hx
    refine ⟨hw x, ?_⟩
    dsimp only [tYes]
    rw [if_pos rfl]
    refine hs i x y hx hy H hp.1 _ fun H' e => ⟨ys.take i, e _ _ hp.2, ?_, same_over hD (hp.1.trans e), ?_⟩
    · refine small_of ?_
      rw [List.length_take]
      omega
    · rw [upd_same, take_up hy]
  · rw [← len, List.take_length] at hp
    exact hd H hp.1 hp.2
theorem lc_mapT (hl : SqT K H1 a xs) (hD : H1 D = none) (len : ys.length = xs.length) (lt : xs.length < 100000) (hw : ∀ x, wipe ((wipe σ vs).set i0 (some x)) vs = wipe σ vs)
    (hs : ∀ (i : Nat) (x y : V), xs[i]? = some x → ys[i]? = some y → Gives te ((wipe σ vs).set i0 (some x)) H1 y) (hd : ∀ H, Same H1 H → H D = some (.lst ys) → Qd H) :
    ∃ W : Nat → Nat → Hp → Prop, (∃ m, W 0 m (upd H1 D (.lst []))) ∧ ∀ i m H, W i m H →
      ((Itt K a).stop i H ∧ Qd H) ∨ ((Itt K a).go i H ∧ ∃ Nx : Hp → Prop, (∀ H', Nx H' → ∃ m', m' < m ∧ W (i + 1) m' H') ∧ ∀ x H', (Itt K a).yld i H x H' → gName i0 x (wipe σ vs) H' fun σ2 H2 => wipe σ2 vs = wipe σ vs ∧ tYes σ2 H2 fun b H3 =>
        if b = true then te σ2 H3 fun y H4 => ∃ acc, H4 D = some (.lst acc) ∧ acc.length < sizeLine ∧ Nx (upd H4 D (.lst (acc ++ [y]))) else Nx H3) := by
  refine lc_tup (K := K) (a := a) (xs := xs) (fun i H => Same H1 H ∧ H D = some (.lst (ys.take i))) ⟨same_new hD, upd_same⟩ (fun i H _ hp => hp.1.seqT hl) (fun i x H hx hp => ?_) (fun H hp => ?_)
  · obtain ⟨y, hy⟩ := get_of len hx
    refine ⟨hw x, ?_⟩
    dsimp only [tYes]
    rw [if_pos rfl]
    refine hs i x y hx hy H hp.1 _ fun H' e => ⟨ys.take i, e _ _ hp.2, ?_, same_over hD (hp.1.trans e), ?_⟩
    · refine small_of ?_
      rw [List.length_take]
      omega
    · rw [upd_same, take_up hy]
  · rw [← len, List.take_length] at hp
    exact hd H hp.1 hp.2
/-- nothing is taken -/
theorem lc_noneT {tt : TT} (hl : SqT K H1 a xs) (hD : H1 D = none) (hw : ∀ x, wipe ((wipe σ vs).set i0 (some x)) vs = wipe σ vs)
    (hs : ∀ (i : Nat) (x : V), xs[i]? = some x → ∀ H, Same H1 H → ∀ Q : Bool → Hp → Prop, (∀ H', Same H H' → Q false H') → tt ((wipe σ vs).set i0 (some x)) H Q) (hd : ∀ H, Same H1 H → H D = some (.lst []) → Qd H) :
    ∃ W : Nat → Nat → Hp → Prop, (∃ m, W 0 m (upd H1 D (.lst []))) ∧ ∀ i m H, W i m H →
      ((Itt K a).stop i H ∧ Qd H) ∨ ((Itt K a).go i H ∧ ∃ Nx : Hp → Prop, (∀ H', Nx H' → ∃ m', m' < m ∧ W (i + 1) m' H') ∧ ∀ x H', (Itt K a).yld i H x H' → gName i0 x (wipe σ vs) H' fun σ2 H2 => wipe σ2 vs = wipe σ vs ∧ tt σ2 H2 fun b H3 =>
        if b = true then te σ2 H3 fun y H4 => ∃ acc, H4 D = some (.lst acc) ∧ acc.length < sizeLine ∧ Nx (upd H4 D (.lst (acc ++ [y]))) else Nx H3) := by
  refine lc_tup (K := K) (a := a) (xs := xs) (fun i H => Same H1 H ∧ H D = some (.lst [])) ⟨same_new hD, upd_same⟩ (fun i H _ hp => hp.1.seqT hl) (fun i x H hx hp => ?_) (fun H hp => hd H hp.1 hp.2)
  refine ⟨hw x, hs i x hx H hp.1 _ fun H' e => ?_⟩
  rw [if_neg Bool.false_ne_true]
  exact ⟨hp.1.trans e, e _ _ hp.2⟩
theorem lc_mapR {n : Nat} {lo : Int} (hD : H1 D = none) (len : ys.length = n) (lt : n < 100000) (hw : ∀ x, wipe ((wipe σ vs).set i0 (some x)) vs = wipe σ vs)
    (hs : ∀ (i : Nat) (y : V), i < n → ys[i]? = some y → Gives te ((wipe σ vs).set i0 (some (.int (lo + i)))) H1 y) (hd : ∀ H, Same H1 H → H D = some (.lst ys) → Qd H) :
    ∃ W : Nat → Nat → Hp → Prop, (∃ m, W 0 m (upd H1 D (.lst []))) ∧ ∀ i m H, W i m H →
      ((Itr lo n).stop i H ∧ Qd H) ∨ ((Itr lo n).go i H ∧ ∃ Nx : Hp → Prop, (∀ H', Nx H' → ∃ m', m' < m ∧ W (i + 1) m' H') ∧ ∀ x H', (Itr lo n).yld i H x H' → gName i0 x (wipe σ vs) H' fun σ2 H2 => wipe σ2 vs = wipe σ vs ∧ tYes σ2 H2 fun b H3 =>
        if b = true then te σ2 H3 fun y H4 => ∃ acc, H4 D = some (.lst acc) ∧ acc.length < sizeLine ∧ Nx (upd H4 D (.lst (acc ++ [y]))) else Nx H3) := by
  refine lc_range (lo := lo) (n := n) (fun i H => Same H1 H ∧ H D = some (.lst (ys.take i))) ⟨same_new hD, upd_same⟩ (fun i H hi hp => ?_) (fun H hp => ?_)
  · have hy : ys[i]? = some (ys[i]'(by omega)) := List.getElem?_eq_getElem _
    refine ⟨hw _, ?_⟩
    dsimp only [tYes]
    rw [if_pos rfl]
    refine hs i _ hi hy H hp.1 _ fun H' e => ⟨ys.take i, e _ _ hp.2, ?_, same_over hD (hp.1.trans e), ?_⟩
    · refine small_of ?_
      rw [List.length_take]
      omega
    · rw [upd_same, take_up hy]
  · rw [← len, List.take_length] at hp
    exact hd H hp.1 hp.2
end

/-! ### the pen: what the script has told so far -/
/-- at p: the cells, how many were read (n at most), what is left of a great one -/
def Pen (H : Hp) (p : Addr) (n : Nat) : Prop := ∃ (L : Addr) (ns : List Int) (k : Nat) (r : Int), H p = some (.lst [.ref L, .int (k : Int), .int r]) ∧ H L = some (.lst (ns.map V.int)) ∧ p ≠ L ∧ ns.length ≤ 100 ∧ k ≤ n ∧ 0 ≤ r
/-- all but p is as it was -/
def Kp (p : Addr) (H H' : Hp) : Prop := ∀ b o, b ≠ p → H b = some o → H' b = some o
theorem Kp.refl (p : Addr) (H : Hp) : Kp p H H := fun _ _ _ h => h
theorem Kp.trans {p : Addr} {H H1 H2 : Hp} (a : Kp p H H1) (b : Kp p H1 H2) : Kp p H H2 := fun c o n h => b c o n (a c o n h)
theorem Kp.upd {p : Addr} {H : Hp} {o : HO} : Kp p H (upd H p o) := fun b u n h => by
  rw [upd_ne n]
  exact h
theorem _root_.L2.Same.kp {p : Addr} {H H' : Hp} (e : Same H H') : Kp p H H' := fun b o _ h => e b o h
theorem Pen.same {p : Addr} {n : Nat} {H H' : Hp} (h : Pen H p n) (e : Same H H') : Pen H' p n := by
  obtain ⟨L, ns, k, r, h1, h2, h3⟩ := h
  exact ⟨L, ns, k, r, e _ _ h1, e _ _ h2, h3⟩
theorem cut_int (ns : List Int) (k : Int) : ∃ ms : List Int, cutV (ns.map V.int) none (some k) = ms.map V.int ∧ ms.length ≤ ns.length := by
  unfold cutV
  refine ⟨((ns.drop (HT.sIx (ns.map V.int).length 0 none)).take (HT.sIx (ns.map V.int).length (ns.map V.int).length (some k) - HT.sIx (ns.map V.int).length 0 none)), ?_, ?_⟩
  · rw [List.map_take, List.map_drop]
  · rw [List.length_take, List.length_drop]
    omega
end BW
/-! What a reading evaluates to, told by a word about the value and the heap; making errors, their attributes, isinstance, != of equals. -/
namespace BW
open PySem PySem.Spec PyProof.Rows L2

/-! ### evaluates to something of which P holds -/
/-- P stays when more is known -/
def Mon (P : V → Hp → Prop) : Prop := ∀ v H H', Evl.Ex H H' → P v H → P v H'
def Evp (te : TE) (σ : L2.St) (H : Hp) (P : V → Hp → Prop) : Prop := ∀ H1, Evl.Ex H H1 → ∀ Q : VK, (∀ v H2, Evl.Ex H1 H2 → P v H2 → Q v H2) → te σ H1 Q
def Eap (ta : TA) (σ : L2.St) (H : Hp) (P : List V → Hp → Prop) : Prop := ∀ H1, Evl.Ex H H1 → ∀ Q : List V → Hp → Prop, (∀ vs H2, Evl.Ex H1 H2 → P vs H2 → Q vs H2) → ta σ H1 Q
section
variable {te ta tb : TE} {tr : TA} {σ : L2.St} {H H' : Hp} {P P' : V → Hp → Prop} {R R' : List V → Hp → Prop} {x v : V}
theorem Evp.mono (h : Evp te σ H P) (e : Evl.Ex H H') : Evp te σ H' P := fun H1 a Q q => h H1 (e.trans a) Q q
theorem Evp.imp (h : Evp te σ H P) (k : ∀ v H2, Evl.Ex H H2 → P v H2 → P' v H2) : Evp te σ H P' := fun H1 e Q q => h H1 e Q fun v H2 e2 p => q v H2 e2 (k v H2 (e.trans e2) p)
theorem evp_of (h : Evl.Ev te σ H x) : Evp te σ H (fun v _ => v = x) := fun H1 e Q q => h H1 e Q fun H2 e2 => q x H2 e2 rfl
theorem ev_of (h : Evp te σ H (fun v _ => v = x)) : Evl.Ev te σ H x := fun H1 e Q q => h H1 e Q fun v H2 e2 p => by
  subst p
  exact q H2 e2
theorem evp_ofL {xs : List V} (h : Evl.EvL te σ H xs) : Evp te σ H (fun v H2 => ∃ p, v = .ref p ∧ H2 p = some (.lst xs)) := fun H1 e Q q => h H1 e Q fun p H2 _ e2 hp => q (.ref p) H2 e2 ⟨p, rfl, hp⟩
theorem eap_nil : Eap tNil σ H (fun vs _ => vs = []) := fun H1 _ Q q => q [] H1 (Evl.Ex.refl H1) rfl
/-- a list of values, each with its word -/
inductive Alls : List (V → Hp → Prop) → List V → Hp → Prop where
  | nil {H : Hp} : Alls [] [] H
  | cons {P : V → Hp → Prop} {Ps : List (V → Hp → Prop)} {v : V} {vs : List V} {H : Hp} (h : P v H) (r : Alls Ps vs H) : Alls (P :: Ps) (v :: vs) H
theorem Alls.mono : ∀ {Ps : List (V → Hp → Prop)} {vs : List V} {H H' : Hp}, (∀ P ∈ Ps, Mon P) → Evl.Ex H H' → Alls Ps vs H → Alls Ps vs H'
  | _, _, _, _, _, _, .nil => .nil
  | _, _, _, _, m, e, .cons h r => .cons (m _ (List.mem_cons_self ..) _ _ _ e h) (Alls.mono (fun P hP => m P (List.mem_cons_of_mem _ hP)) e r)
theorem Alls.length : ∀ {Ps : List (V → Hp → Prop)} {vs : List V} {H : Hp}, Alls Ps vs H → vs.length = Ps.length
  | _, _, _, .nil => rfl
  | _, _, _, .cons _ r => congrArg Nat.succ r.length
theorem Alls.get : ∀ {Ps : List (V → Hp → Prop)} {vs : List V} {H : Hp} {i : Nat} {P : V → Hp → Prop}, Alls Ps vs H → Ps[i]? = some P → ∃ v, vs[i]? = some v ∧ P v H
  | _, _, _, _, _, .nil, h => by simp at h
  | _, _, _, 0, P, .cons h _, e => by
    have e2 : _ = P := Option.some.inj e
    subst e2
    exact ⟨_, rfl, h⟩
  | _, _, _, i + 1, P, .cons _ r, e => r.get (i := i) e
theorem Alls.append : ∀ {Ps Ps' : List (V → Hp → Prop)} {vs vs' : List V} {H : Hp}, Alls Ps vs H → Alls Ps' vs' H → Alls (Ps ++ Ps') (vs ++ vs') H
  | _, _, _, _, _, .nil, r => r
  | _, _, _, _, _, .cons h t, r => .cons h (t.append r)
theorem eap_cons {Ps : List (V → Hp → Prop)} (m : Mon P) (h : Evp te σ H P) (hr : Eap tr σ H (Alls Ps)) : Eap (tCons te tr) σ H (Alls (P :: Ps)) := fun H1 e Q q =>
  h H1 e _ fun v H2 e2 p => hr H2 (e.trans e2) _ fun vs H3 e3 r => q _ H3 (e2.trans e3) (.cons (m v H2 H3 e3 p) r)
theorem eap_nilA : Eap tNil σ H (Alls []) := fun H1 _ Q q => q [] H1 (Evl.Ex.refl H1) .nil
/-- a list of such values -/
def LstOf (Ps : List (V → Hp → Prop)) : V → Hp → Prop := fun v H => ∃ p vs, v = .ref p ∧ H p = some (.lst vs) ∧ Alls Ps vs H
def TupOf (Ps : List (V → Hp → Prop)) : V → Hp → Prop := fun v H => ∃ p vs, v = .ref p ∧ H p = some (.tup vs) ∧ Alls Ps vs H
theorem mon_lst {Ps : List (V → Hp → Prop)} (m : ∀ P ∈ Ps, Mon P) : Mon (LstOf Ps) := fun v H H' e h => by
  obtain ⟨p, vs, rfl, hp, r⟩ := h
  exact ⟨p, vs, rfl, e _ _ hp, r.mono m e⟩
theorem mon_tup {Ps : List (V → Hp → Prop)} (m : ∀ P ∈ Ps, Mon P) : Mon (TupOf Ps) := fun v H H' e h => by
  obtain ⟨p, vs, rfl, hp, r⟩ := h
  exact ⟨p, vs, rfl, e _ _ hp, r.mono m e⟩
theorem evp_lst {Ps : List (V → Hp → Prop)} (m : ∀ P ∈ Ps, Mon P) (h : Eap tr σ H (Alls Ps)) (hl : Ps.length ≤ 100000) : Evp (tLst tr) σ H (LstOf Ps) := fun H1 e Q q =>
  h H1 e _ fun vs H2 e2 r => ⟨by rw [r.length]; exact Evl.sz_of hl, fun p hp => q (.ref p) _ (e2.trans (Evl.Ex.new hp)) ⟨p, vs, rfl, upd_same, r.mono m (Evl.Ex.new hp)⟩⟩
theorem evp_tup {Ps : List (V → Hp → Prop)} (m : ∀ P ∈ Ps, Mon P) (h : Eap tr σ H (Alls Ps)) (hl : Ps.length ≤ 100000) : Evp (tTup tr) σ H (TupOf Ps) := fun H1 e Q q =>
  h H1 e _ fun vs H2 e2 r => ⟨by rw [r.length]; exact Evl.sz_of hl, fun p hp => q (.ref p) _ (e2.trans (Evl.Ex.new hp)) ⟨p, vs, rfl, upd_same, r.mono m (Evl.Ex.new hp)⟩⟩
/-- xs + ys -/
theorem evp_cat {Ps Ps' : List (V → Hp → Prop)} (m : ∀ P ∈ Ps, Mon P) (m' : ∀ P ∈ Ps', Mon P) (h : Evp ta σ H (LstOf Ps)) (h' : Evp tb σ H (LstOf Ps')) (hl : Ps.length + Ps'.length ≤ 100000) : Evp (tOp rCat ta tb) σ H (LstOf (Ps ++ Ps')) := fun H1 e Q q =>
  h H1 e _ fun v H2 e2 hv => h' H2 (e.trans e2) _ fun v' H3 e3 hv' => by
    obtain ⟨p, vs, rfl, hp, r⟩ := mon_lst m _ _ _ e3 hv
    obtain ⟨p', vs', rfl, hp', r'⟩ := hv'
    refine ⟨p, p', vs, vs', rfl, rfl, hp, hp', ?_, fun o no => q (.ref o) _ ((e2.trans e3).trans (Evl.Ex.new no)) ⟨o, vs ++ vs', rfl, upd_same, (r.mono m (Evl.Ex.new no)).append (r'.mono m' (Evl.Ex.new no))⟩⟩
    rw [r.length, r'.length]
    exact Evl.sz_of hl
end

/-! ### errors as values -/
/-- an instance of the error class at C with the attributes fs -/
def ErrV (C : Addr) (fs : List (Str × V)) : V → Hp → Prop := fun v H => ∃ a d, v = .ref a ∧ H a = some (exo a C (some d)) ∧ H d = some (exd d fs)
theorem mon_err {C : Addr} {fs : List (Str × V)} : Mon (ErrV C fs) := fun v H H' e h => by
  obtain ⟨a, d, rfl, h1, h2⟩ := h
  exact ⟨a, d, rfl, e _ _ h1, e _ _ h2⟩
/-- an __init__ of one field, of two -/
def spI1 (K : PySem.W.Frag) (f : Str) : Sp := fun vs H Q _ => ∃ (a C : Addr) (x : V), vs = [.ref a, x] ∧ OexC K C ∧ PySem.W.findIn K (.ref C) f = some none ∧ H a = some (exo a C none) ∧
  ∀ d H', H d = none → d ≠ a → (∀ b o, b ≠ a → H b = some o → H' b = some o) → H' a = some (exo a C (some d)) → H' d = some (exd d [(f, x)]) → Q .non H'
def spI2 (K : PySem.W.Frag) (f g : Str) : Sp := fun vs H Q _ => ∃ (a C : Addr) (x y : V), vs = [.ref a, x, y] ∧ OexC K C ∧ PySem.W.findIn K (.ref C) f = some none ∧ PySem.W.findIn K (.ref C) g = some none ∧ H a = some (exo a C none) ∧
  ∀ d H', H d = none → d ≠ a → (∀ b o, b ≠ a → H b = some o → H' b = some o) → H' a = some (exo a C (some d)) → H' d = some (exd d [(g, y), (f, x)]) → Q .non H'
section
variable {σ : L2.St} {H : Hp} {te tu : TE} {x y : V} {K : PySem.W.Frag} {C : Addr} {f g : Str}
theorem kept_new {H H' : Hp} {a C : Addr} (na : H a = none) (k : ∀ b o, b ≠ a → upd H a (exo a C none) b = some o → H' b = some o) : Evl.Ex H H' := fun b o h => by
  have nb : b ≠ a := ne_of_none h na
  exact k b o nb (by rw [upd_ne nb]; exact h)
theorem evp_mk1 (O : OexC K C) (no : PySem.W.findIn K (.ref C) f = some none) (h : Evl.Ev te σ H x) : Evp (tMkV C 1 0 (spI1 K f) (fun vs _ => vs) (tCons te tNil) tNil) σ H (ErrV C [(f, x)]) := fun H1 e Q q =>
  h H1 e _ fun H2 e2 => ⟨rfl, rfl, fun a na => ⟨a, C, x, rfl, O, no, upd_same, fun d H' nd _ k h1 h2 => ⟨rfl, q (.ref a) H' (e2.trans (kept_new na k)) ⟨a, d, rfl, h1, h2⟩⟩⟩⟩
theorem evp_mk1k (O : OexC K C) (no : PySem.W.findIn K (.ref C) f = some none) (h : Evl.Ev te σ H x) : Evp (tMkV C 0 1 (spI1 K f) (fun vs zs => vs ++ zs) tNil (tCons te tNil)) σ H (ErrV C [(f, x)]) := fun H1 e Q q =>
  h H1 e _ fun H2 e2 => ⟨rfl, rfl, fun a na => ⟨a, C, x, rfl, O, no, upd_same, fun d H' nd _ k h1 h2 => ⟨rfl, q (.ref a) H' (e2.trans (kept_new na k)) ⟨a, d, rfl, h1, h2⟩⟩⟩⟩
theorem evp_mk2 (O : OexC K C) (no : PySem.W.findIn K (.ref C) f = some none) (no' : PySem.W.findIn K (.ref C) g = some none) (h : Evl.Ev te σ H x) (h' : Evl.Ev tu σ H y) :
    Evp (tMkV C 2 0 (spI2 K f g) (fun vs _ => vs) (tCons te (tCons tu tNil)) tNil) σ H (ErrV C [(g, y), (f, x)]) := fun H1 e Q q =>
  h H1 e _ fun H2 e2 => h' H2 (e.trans e2) _ fun H3 e3 => ⟨rfl, rfl, fun a na => ⟨a, C, x, y, rfl, O, no, no', upd_same, fun d H' nd _ k h1 h2 => ⟨rfl, q (.ref a) H' ((e2.trans e3).trans (kept_new na k)) ⟨a, d, rfl, h1, h2⟩⟩⟩⟩
/-- the keywords the other way about -/
theorem evp_mk2k (O : OexC K C) (no : PySem.W.findIn K (.ref C) f = some none) (no' : PySem.W.findIn K (.ref C) g = some none) (h' : Evl.Ev tu σ H y) (h : Evl.Ev te σ H x) :
    Evp (tMkV C 0 2 (spI2 K f g) (fun vs zs => vs ++ zs.reverse) tNil (tCons tu (tCons te tNil))) σ H (ErrV C [(g, y), (f, x)]) := fun H1 e Q q =>
  h' H1 e _ fun H2 e2 => h H2 (e.trans e2) _ fun H3 e3 => ⟨rfl, rfl, fun a na => ⟨a, C, x, y, rfl, O, no, no', upd_same, fun d H' nd _ k h1 h2 => ⟨rfl, q (.ref a) H' ((e2.trans e3).trans (kept_new na k)) ⟨a, d, rfl, h1, h2⟩⟩⟩⟩
/-- e.f -/
theorem ev_xa {fs : List (Str × V)} (X : XfC K C) (no : PySem.W.findIn K (.ref C) f = some none) (h : Evp te σ H (ErrV C fs)) (hl : fs.lookup f = some x) : Evl.Ev (tXA K f te) σ H x := fun H1 e Q q =>
  h H1 e _ fun v H2 e2 hv => by
    obtain ⟨a, d, rfl, h1, h2⟩ := hv
    exact ⟨a, C, d, fs, x, rfl, h1, h2, X, no, hl, q H2 e2⟩
/-- x != y of the same value -/
theorem ev_neS (h : Evl.Ev te σ H x) (h' : Evl.Ev tu σ H x) (hs : SelfNe K H x) : Evl.Ev (tOp (rNeS K) te tu) σ H (.bl false) := fun H1 e Q q =>
  h H1 e _ fun H2 e2 => h' H2 (e.trans e2) _ fun H3 e3 => ⟨rfl, hs.same ((e.trans e2).trans e3), q H3 (e2.trans e3)⟩
theorem rc_isX {a d D : Addr} {fs : List (Str × V)} {b : Bool} {c : V} {cv : Value} (h1 : H a = some (exo a C (some d))) (h2 : H d = some (exd d fs)) (S : ExcC K C) (k : ClsV c cv) (hk : PySem.W.kitOne K (.ref C) cv = some b) :
    Evl.RC (rIsX K) [.ref a, c] H (.bl b) := fun H1 e Q q => ⟨a, C, d, fs, c, cv, b, rfl, e _ _ h1, e _ _ h2, S, k, hk, q H1 (Evl.Ex.refl H1)⟩
end

/-! ### an error without an __init__ of its own, made with nothing -/
theorem pe_exc0 {X : Cx} {C : Addr} {bmB : List Value} {B newId initId : String} {x : Str} {p pos : Pos} (F : ExcBaseFacts B newId initId bmB) (q : PySem.W.excIn X.K C bmB newId = true) (gC : X.mg x = some (.ref C)) (kC : PySem.W.keepIn X.K (.ref C) = true) (hg : Gl X x)
    (hdb : (x == ("__debug__" : Str)) = false := by decide) : PE X (.Call (.Name x p) [] [] pos) (fun _ H Q => ∀ a, H a = none → Q (.ref a) (upd H a (ExO (.ref C) a))) := by
  refine ⟨fun pins s σ H Q I h => ?_⟩
  refine wpAny_Call_Name_kw (ld_glob I hg gC ?_ hdb)
  refine PySem.W.callWith_K0 I.kIn kC ?_
  show wpAny _ _ (call (.ref C) []) _ _ _
  obtain ⟨bm, N, nm, qn, bs, hdct, sn, sub, ab, col, dd, k0, k1, k2, k3, k5, mN, hC, hN, hni, T⟩ := exc_obj I.kIn q
  refine wpAny_call_exc_subT F T hC hN hni (fun h' a hm => ?_) (Nat.zero_le _)
  have hn : H a = none := I.hok.gone hm.new
  obtain ⟨t, ht, _, _⟩ := hm.there
  exact ⟨.ref a, upd H a (ExO (.ref C) a), I.laidN hm.keeps hm.new hn (exO_ok ht ⟨rfl, rfl⟩ rfl rfl rfl (show 4 < 6 by decide)), rfl, h a hn⟩
def ErrO (C : Addr) : V → Hp → Prop := fun v H => ∃ a, v = .ref a ∧ H a = some (ExO (.ref C) a)
theorem mon_errO {C : Addr} : Mon (ErrO C) := fun v H H' e h => by
  obtain ⟨a, rfl, h1⟩ := h
  exact ⟨a, rfl, e _ _ h1⟩
theorem evp_exc0 {C : Addr} {σ : L2.St} {H : Hp} : Evp (fun _ H Q => ∀ a, H a = none → Q (.ref a) (upd H a (ExO (.ref C) a))) σ H (ErrO C) := fun H1 e Q q a na =>
  q (.ref a) _ (Evl.Ex.new na) ⟨a, rfl, upd_same⟩
/-- an instance of the error class at C, with attributes or without -/
def Err (C : Addr) : V → Hp → Prop := fun v H => (∃ fs, ErrV C fs v H) ∨ ErrO C v H
theorem mon_errA {C : Addr} : Mon (Err C) := fun v H H' e h => by
  rcases h with ⟨fs, h⟩ | h
  · exact .inl ⟨fs, mon_err _ _ _ e h⟩
  · exact .inr (mon_errO _ _ _ e h)
def rIsA (K : PySem.W.Frag) : List V → Hp → VK → Prop := fun xs H Q => ∃ (x : V) (C : Addr) (c : V) (cv : Value) (b : Bool), xs = [x, c] ∧ Err C x H ∧ ExcC K C ∧ ClsV c cv ∧ PySem.W.kitOne K (.ref C) cv = some b ∧ Q (.bl b) H
def rIsAT (K : PySem.W.Frag) : List V → Hp → VK → Prop := fun xs H Q => ∃ (x : V) (C : Addr) (tp : Addr) (cs : List V) (us : List Value) (b : Bool),
  xs = [x, .ref tp] ∧ Err C x H ∧ ExcC K C ∧ H tp = some (.tup cs) ∧ Paired ClsV cs us ∧ PySem.W.kitAny K (.ref C) us = some b ∧ Q (.bl b) H
section
variable {X : Cx}
theorem call_isA : CallR X (.builtin "isinstance") (rIsA X.K) := by
  intro pins s σ H xs us Q I r h
  obtain ⟨x, C, c, cv, b, rfl, hx, T, k, e, q⟩ := h
  rcases hx with ⟨fs, a, d, rfl, ea, ed⟩ | ⟨a, rfl, ea⟩
  · exact call_isX pins s σ H _ us Q I r ⟨a, C, d, fs, c, cv, b, rfl, ea, ed, T, k, e, q⟩
  · obtain ⟨u1, u2, rfl, r1, r2⟩ := vals2 r
    obtain rfl := k.eq r2
    cases (show u1 = Value.ref a from r1)
    obtain ⟨⟨oe, vs, ho, hz, hd, _⟩, _, _⟩ := I.hok a _ ea
    have J : PySem.W.InstAt s.heap a oe C none := by
      obtain ⟨oc, od, oda, osl⟩ := oe
      obtain ⟨h1, h2⟩ := hz
      dsimp only at h1 h2 hd
      subst h1 h2 hd
      exact ⟨ho, rfl, rfl, trivial⟩
    exact PySem.W.kia_one (PySem.W.handS_kitx_exc T.hg T.hk T.hs T.hd T.ha T.hn T.ht T.hm) I.kIn J e (fun z => nomatch z) fun tk => ⟨.bl b, H, I.tok tk, rfl, q⟩
theorem call_isAT : CallR X (.builtin "isinstance") (rIsAT X.K) := by
  intro pins s σ H xs us Q I r h
  obtain ⟨x, C, tp, cs, ws, b, rfl, hx, T, hT, k, e, q⟩ := h
  rcases hx with ⟨fs, a, d, rfl, ea, ed⟩ | ⟨a, rfl, ea⟩
  · exact call_isXT pins s σ H _ us Q I r ⟨a, C, d, fs, tp, cs, ws, b, rfl, ea, ed, T, hT, k, e, q⟩
  · obtain ⟨u1, u2, rfl, r1, r2⟩ := vals2 r
    cases (show u1 = Value.ref a from r1)
    cases (show u2 = Value.ref tp from r2)
    obtain ⟨⟨oe, vs, ho, hz, hd, _⟩, _, _⟩ := I.hok a _ ea
    have J : PySem.W.InstAt s.heap a oe C none := by
      obtain ⟨oc, od, oda, osl⟩ := oe
      obtain ⟨h1, h2⟩ := hz
      dsimp only at h1 h2 hd
      subst h1 h2 hd
      exact ⟨ho, rfl, rfl, trivial⟩
    have hx : ObjOk X.prog X.w H s.heap tp (.tup cs) := I.hok tp _ hT
    obtain ⟨_, its, rv, ot, g1, g2, n, g3⟩ := hx
    obtain rfl := ClsV.all k rv
    obtain ⟨oc, dd, dt, sl⟩ := ot
    dsimp only at g2 g3
    subst g2
    subst g3
    exact PySem.W.kia_tup (PySem.W.handS_kitx_exc T.hg T.hk T.hs T.hd T.ha T.hn T.ht T.hm) I.kIn J g1 e (fun z => nomatch z) fun tk => ⟨.bl b, H, I.tok tk, rfl, q⟩
end
theorem rc_isA {K : PySem.W.Frag} {H : Hp} {C : Addr} {b : Bool} {x c : V} {cv : Value} (h : Err C x H) (S : ExcC K C) (k : ClsV c cv) (hk : PySem.W.kitOne K (.ref C) cv = some b) : Evl.RC (rIsA K) [x, c] H (.bl b) := fun H1 e Q q =>
  ⟨x, C, c, cv, b, rfl, mon_errA _ _ _ e h, S, k, hk, q H1 (Evl.Ex.refl H1)⟩
end BW
/-! Statements and loops over what a reading evaluates to; classes of errors with one field or two. -/
namespace BW
open PySem PySem.Spec PyProof.Rows L2
section
variable {te ta tb tl : TE} {tr : TA} {σ : L2.St} {H H' : Hp} {P P' : V → Hp → Prop} {x v : V} {D : Ends} {tu tz : TS} {K : PySem.W.Frag}
theorem evp_var {i : Nat} (m : Mon P) (h : σ[i]? = some (some v)) (p : P v H) : Evp (tVar i) σ H P := fun H1 e Q q => ⟨v, h, q v H1 (Evl.Ex.refl H1) (m _ _ _ e p)⟩
theorem s_asgP {i : Nat} (h : Evp te σ H P) (k : ∀ v H1, Evl.Ex H H1 → P v H1 → D.nx (σ.set i (some v)) H1) : tAsg te (gName i) D σ H := h H (Evl.Ex.refl H) _ k
theorem q_asgP {i : Nat} (h : Evp te σ H P) (k : ∀ v H1, Evl.Ex H H1 → P v H1 → tz D (σ.set i (some v)) H1) : tSeq (tAsg te (gName i)) tz D σ H := s_asgP (D := { D with nx := tz D }) h k
theorem s_retP (h : Evp te σ H P) (k : ∀ v H1, Evl.Ex H H1 → P v H1 → D.rt v H1) : tRet te D σ H := h H (Evl.Ex.refl H) _ k
/-- xs[i] of a list of values with words -/
theorem item_of {Ps : List (V → Hp → Prop)} {i : Nat} (hv : LstOf Ps v H) (hi : Ps[i]? = some P) : ∃ y, P y H ∧ ∀ {H1 : Hp}, Evl.Ex H H1 → Evl.RV (rIxL K) v (.int (i : Int)) H1 y := by
  obtain ⟨p, vs, rfl, hp, r⟩ := hv
  obtain ⟨y, hy, py⟩ := r.get hi
  exact ⟨y, py, fun e => Evl.rv_ixL (Evl.sq_of (e _ _ hp)) (atI_nat hy)⟩
theorem evp_ev (m : Mon P) (h : Evl.Ev te σ H x) (p : P x H) : Evp te σ H P := fun H1 e Q q => h H1 e _ fun H2 e2 => q x H2 e2 (m _ _ _ (e.trans e2) p)
/-- a loop over a tuple that is made on the way -/
theorem q_forTp {Ps : List (V → Hp → Prop)} {j : Nat} (m : ∀ P ∈ Ps, Mon P) (h : Evp tl σ H (TupOf Ps)) (Pv : Nat → L2.St → Hp → Prop) (h0 : ∀ H1, Evl.Ex H H1 → Pv 0 σ H1)
    (hs : ∀ (H1 : Hp), Evl.Ex H H1 → ∀ (i : Nat) (x : V) (P : V → Hp → Prop) (σ' : L2.St) (H' : Hp), Ps[i]? = some P → P x H' → Evl.Ex H1 H' → Pv i σ' H' →
      tu { D with nx := fun σ2 H2 => Evl.Ex H1 H2 ∧ Pv (i + 1) σ2 H2, ct := fun σ2 H2 => Evl.Ex H1 H2 ∧ Pv (i + 1) σ2 H2, bk := tz D } (σ'.set j (some x)) H') (hd : ∀ (H1 : Hp), Evl.Ex H H1 → ∀ (σ' : L2.St) (H' : Hp), Evl.Ex H1 H' → Pv Ps.length σ' H' → tz D σ' H') :
    tSeq (tFor (iTup K tl) (gName j) tu) tz D σ H := h H (Evl.Ex.refl H) _ fun v H1 e hv => by
  obtain ⟨p, vs, rfl, hp, r⟩ := hv
  refine ⟨p, rfl, ⟨vs, Evl.st_of hp⟩, for_tup (xs := vs) (D := { D with nx := tz D }) (fun i σ' H' => Evl.Ex H1 H' ∧ Pv i σ' H') ⟨Evl.Ex.refl H1, h0 H1 e⟩ (fun i σ' H' _ q => Evl.ex_t q.1 (Evl.st_of hp)) (fun i x σ' H' hi q => ?_)
    (fun σ' H' q => hd H1 e σ' H' q.1 (by rw [← r.length]; exact q.2))⟩
  have hlt : i < Ps.length := by
    rw [← r.length]
    exact (List.getElem?_eq_some_iff.mp hi).1
  obtain ⟨y, hy, py⟩ := r.get (List.getElem?_eq_getElem hlt)
  obtain rfl : x = y := Option.some.inj (hi.symm.trans hy)
  exact hs H1 e i x _ σ' H' (List.getElem?_eq_getElem hlt) (m _ (List.getElem_mem hlt) _ _ _ q.1 py) q.1 q.2
end

/-! ### classes of errors -/
section
variable {P : Program} {w : World} {K : PySem.W.Frag} {mg : Str → Option Value} {base : Heap}
theorem kb_pos {x qual : Str} {st : Stmt} {f : Addr} {fd : FuncData} {ps : List Str} (F : Fun K x qual st f fd) (n : Nat)
    (h : ∀ (kV doc pm : Value) (an : Option Addr) (cdv ct : Value) (us : List Value), us.length = n → bindArgs (PySem.W.fnOf x qual (defArgs st) (defBody st) (defScope st) .none kV doc pm an cdv ct) ⟨us, []⟩ = pure (ps.zip us)) :
    KBn K fd ps n [] (fun us _ => us) (fun vs _ => vs) := by
  obtain ⟨oc, od, kV, doc, pm, an, cdv, ct, osl, rfl, lk, hcd⟩ := F.ex
  exact ⟨fun s us ws X l1 l2 => BindsTo.of_eq (h kV doc pm an cdv ct us l1), fun r _ => r⟩
theorem kb_kw1 {x qual : Str} {st : Stmt} {f : Addr} {fd : FuncData} {ps ks : List Str} (F : Fun K x qual st f fd)
    (h : ∀ (kV doc pm : Value) (an : Option Addr) (cdv ct : Value) (us ws : List Value), us.length = 1 → ws.length = ks.length → bindArgs (PySem.W.fnOf x qual (defArgs st) (defBody st) (defScope st) .none kV doc pm an cdv ct) ⟨us, ks.zip ws⟩ = pure (ps.zip (us ++ ws))) :
    KBn K fd ps 1 ks (fun us ws => us ++ ws) (fun vs zs => vs ++ zs) := by
  obtain ⟨oc, od, kV, doc, pm, an, cdv, ct, osl, rfl, lk, hcd⟩ := F.ex
  exact ⟨fun s us ws X l1 l2 => BindsTo.of_eq (h kV doc pm an cdv ct us ws l1 l2), fun r r2 => r.append r2⟩
theorem vals_rev : ∀ {xs : List V} {us : List Value}, Vals xs us → Vals xs.reverse us.reverse
  | _, _, .nil => .nil
  | _, _, .cons (l₁ := xs) (l₂ := us) (a := x) (b := u) r t => by
    rw [List.reverse_cons, List.reverse_cons]
    exact (vals_rev t).append (.cons r .nil)
theorem kb_kwR {x qual : Str} {st : Stmt} {f : Addr} {fd : FuncData} {ps ks : List Str} (F : Fun K x qual st f fd)
    (h : ∀ (kV doc pm : Value) (an : Option Addr) (cdv ct : Value) (us ws : List Value), us.length = 1 → ws.length = ks.length → bindArgs (PySem.W.fnOf x qual (defArgs st) (defBody st) (defScope st) .none kV doc pm an cdv ct) ⟨us, ks.zip ws⟩ = pure (ps.zip (us ++ ws.reverse))) :
    KBn K fd ps 1 ks (fun us ws => us ++ ws.reverse) (fun vs zs => vs ++ zs.reverse) := by
  obtain ⟨oc, od, kV, doc, pm, an, cdv, ct, osl, rfl, lk, hcd⟩ := F.ex
  exact ⟨fun s us ws X l1 l2 => BindsTo.of_eq (h kV doc pm an cdv ct us ws l1 l2), fun r r2 => r.append (vals_rev r2)⟩
/-- a class of errors with one field -/
structure E1 (P : Program) (w : World) (K : PySem.W.Frag) (mg : Str → Option Value) (base : Heap) (nm f0 : Str) (C : Addr) : Prop where
  g : mg nm = some (.ref C)
  O : OexC K C
  X : XfC K C
  no : PySem.W.findIn K (.ref C) f0 = some none
  made : ∃ (fI : Addr) (fd : FuncData), PySem.W.findIn K (.ref C) "__init__" = some (some (.ref fI)) ∧ PySem.W.typeIn K (.ref fI) = some (.type "function") ∧ FnOk P w K mg base CX0 1 fI fd ["self", f0] (spI1 K f0) ∧
    KBn K fd ["self", f0] 2 [] (fun us _ => us) (fun vs _ => vs) ∧ KBn K fd ["self", f0] 1 [f0] (fun us ws => us ++ ws) (fun vs zs => vs ++ zs)
/-- with two -/
structure E2 (P : Program) (w : World) (K : PySem.W.Frag) (mg : Str → Option Value) (base : Heap) (nm f0 f1 : Str) (C : Addr) : Prop where
  g : mg nm = some (.ref C)
  O : OexC K C
  X : XfC K C
  no : PySem.W.findIn K (.ref C) f0 = some none
  no1 : PySem.W.findIn K (.ref C) f1 = some none
  made : ∃ (fI : Addr) (fd : FuncData), PySem.W.findIn K (.ref C) "__init__" = some (some (.ref fI)) ∧ PySem.W.typeIn K (.ref fI) = some (.type "function") ∧ FnOk P w K mg base CX0 1 fI fd ["self", f0, f1] (spI2 K f0 f1) ∧
    KBn K fd ["self", f0, f1] 3 [] (fun us _ => us) (fun vs _ => vs) ∧ KBn K fd ["self", f0, f1] 1 [f1, f0] (fun us ws => us ++ ws.reverse) (fun vs zs => vs ++ zs.reverse)
end
section
variable {X : Cx} {nm f0 f1 : Str} {C : Addr} {p pos kpos kpos' : Pos} {e e' : Expr} {te te' : TE}
theorem pe_e1 (h : E1 X.prog X.w X.K X.mg X.base nm f0 C) (hr : Room 2 X.A) (ha : PE X e te) (hg : Gl X nm := by rfl) (hdb : (nm == ("__debug__" : Str)) = false := by decide)
    (he : starEach (e :: []) X.env = (false, eval e X.env) :: starEach [] X.env := by rfl) : PE X (.Call (.Name nm p) [e] [] pos) (tMkV C 1 0 (spI1 X.K f0) (fun vs _ => vs) (tCons te tNil) tNil) := by
  obtain ⟨fI, fd, iC, tI, F, b, _⟩ := h.made
  exact pe_mkV h.O iC tI F hr b pass0 (by decide) hg h.g (pa_cons ha pa_nil he) hdb he
theorem pe_e1k (h : E1 X.prog X.w X.K X.mg X.base nm f0 C) (hr : Room 2 X.A) (ha : PE X e te) (hg : Gl X nm := by rfl) (hdb : (nm == ("__debug__" : Str)) = false := by decide) :
    PE X (.Call (.Name nm p) [] [⟨some f0, e, kpos⟩] pos) (tMkV C 0 1 (spI1 X.K f0) (fun vs zs => vs ++ zs) tNil (tCons te tNil)) := by
  obtain ⟨fI, fd, iC, tI, F, _, b⟩ := h.made
  exact pe_mkVk h.O iC tI F hr b pass0 hg h.g (pk_cons ha pk_nil) rfl rfl hdb rfl
theorem pe_e2 (h : E2 X.prog X.w X.K X.mg X.base nm f0 f1 C) (hr : Room 2 X.A) (ha : PE X e te) (ha' : PE X e' te') (hg : Gl X nm := by rfl) (hdb : (nm == ("__debug__" : Str)) = false := by decide)
    (he : starEach (e :: [e']) X.env = (false, eval e X.env) :: starEach [e'] X.env := by rfl) (he' : starEach (e' :: []) X.env = (false, eval e' X.env) :: starEach [] X.env := by rfl) (hpl : (backTo pos (starEach [e'] X.env)).any (·.1) = false := by rfl) :
    PE X (.Call (.Name nm p) [e, e'] [] pos) (tMkV C 2 0 (spI2 X.K f0 f1) (fun vs _ => vs) (tCons te (tCons te' tNil)) tNil) := by
  obtain ⟨fI, fd, iC, tI, F, b, _⟩ := h.made
  exact pe_mkV h.O iC tI F hr b pass0 (by decide) hg h.g (pa_cons ha (pa_cons ha' pa_nil he') he) hdb he hpl
/-- C(f1 = e', f0 = e) -/
theorem pe_e2k (h : E2 X.prog X.w X.K X.mg X.base nm f0 f1 C) (hr : Room 2 X.A) (ha' : PE X e' te') (ha : PE X e te) (hg : Gl X nm := by rfl) (hdb : (nm == ("__debug__" : Str)) = false := by decide) :
    PE X (.Call (.Name nm p) [] [⟨some f1, e', kpos'⟩, ⟨some f0, e, kpos⟩] pos) (tMkV C 0 2 (spI2 X.K f0 f1) (fun vs zs => vs ++ zs.reverse) tNil (tCons te' (tCons te tNil))) := by
  obtain ⟨fI, fd, iC, tI, F, _, b⟩ := h.made
  exact pe_mkVk h.O iC tI F hr b pass0 hg h.g (pk_cons ha' (pk_cons ha pk_nil)) rfl rfl hdb rfl
end
end BW
/-! A comprehension over a new tuple that takes nothing; != of two new empty lists; loops over a list of pairs. -/
namespace BW
open PySem PySem.Spec PyProof.Rows L2
section
variable {te ta tb tl : TE} {tt : TT} {tr : TA} {σ : L2.St} {H H' : Hp} {P P' : V → Hp → Prop} {x v : V} {D : Ends} {tu tz : TS} {K : PySem.W.Frag}
theorem el_lcT0 {Ps : List (V → Hp → Prop)} {j : Nat} {vs : List Nat} (m : ∀ P ∈ Ps, Mon P) (h : Evp tl σ H (TupOf Ps)) (hw : ∀ x, wipe ((wipe σ vs).set j (some x)) vs = wipe σ vs)
    (ht : ∀ (i : Nat) (x : V) (P : V → Hp → Prop) (H1 : Hp), Evl.Ex H H1 → Ps[i]? = some P → P x H1 → Evl.EvT tt ((wipe σ vs).set j (some x)) H1 false) : Evl.EvL (tLc (iTup K tl) (gName j) tt te vs) σ H [] := fun H0 e Q q =>
  h H0 e _ fun v H1 e1 hv => by
    obtain ⟨p, xs, rfl, hp, r⟩ := hv
    refine ⟨p, rfl, ⟨xs, Evl.st_of hp⟩, fun D hD => lc_noneT (K := K) (a := p) (xs := xs) (Evl.st_of hp) hD hw (fun i x hx H2 e2 Q2 q2 => ?_) (fun H2 e2 hd => q D H2 (Evl.fresh_back e1 hD) (e1.trans e2) hd)⟩
    have hlt : i < Ps.length := by
      rw [← r.length]
      exact (List.getElem?_eq_some_iff.mp hx).1
    obtain ⟨y, hy, py⟩ := r.get (List.getElem?_eq_getElem hlt)
    obtain rfl : x = y := Option.some.inj (hx.symm.trans hy)
    exact ht i x _ H2 ((e.trans e1).trans e2) (List.getElem?_eq_getElem hlt) (m _ (List.getElem_mem hlt) _ _ _ e2 py) H2 (Evl.Ex.refl H2) Q2 fun H3 e3 => q2 H3 e3
theorem ev_neNil (ha : Evl.EvL ta σ H []) (hb : Evl.EvL tb σ H []) : Evl.Ev (tOp (rNeD K) ta tb) σ H (.bl false) := Evl.ev_opLL ha hb fun p q H1 hp hq _ => fun H2 e2 Q k =>
  ⟨.list [], .list [], .lst (Evl.sq_of (e2 _ _ hp)) .nil, .lst (Evl.sq_of (e2 _ _ hq)) .nil, rfl, rfl, k H2 (Evl.Ex.refl H2)⟩
/-- over a list that is at hand, its items with words -/
theorem q_forLp {Ps : List (V → Hp → Prop)} {g : TG} (m : ∀ P ∈ Ps, Mon P) (h : Evp tl σ H (LstOf Ps)) (Pv : Nat → L2.St → Hp → Prop) (h0 : ∀ H1, Evl.Ex H H1 → Pv 0 σ H1)
    (hs : ∀ (H1 : Hp), Evl.Ex H H1 → ∀ (i : Nat) (x : V) (P : V → Hp → Prop) (σ' : L2.St) (H' : Hp), Ps[i]? = some P → P x H' → Evl.Ex H1 H' → Pv i σ' H' →
      g x σ' H' fun σ2 H2 => tu { D with nx := fun σ3 H3 => Evl.Ex H1 H3 ∧ Pv (i + 1) σ3 H3, ct := fun σ3 H3 => Evl.Ex H1 H3 ∧ Pv (i + 1) σ3 H3, bk := tz D } σ2 H2) (hd : ∀ (H1 : Hp), Evl.Ex H H1 → ∀ (σ' : L2.St) (H' : Hp), Evl.Ex H1 H' → Pv Ps.length σ' H' → tz D σ' H') :
    tSeq (tFor (iList K tl) g tu) tz D σ H := h H (Evl.Ex.refl H) _ fun v H1 e hv => by
  obtain ⟨p, vs, rfl, hp, r⟩ := hv
  refine ⟨p, rfl, ⟨vs, Evl.sq_of hp⟩, for_list (xs := vs) (D := { D with nx := tz D }) (fun i σ' H' => Evl.Ex H1 H' ∧ Pv i σ' H') ⟨Evl.Ex.refl H1, h0 H1 e⟩ (fun i σ' H' _ q => Evl.ex_l q.1 (Evl.sq_of hp)) (fun i x σ' H' hi q => ?_)
    (fun σ' H' q => hd H1 e σ' H' q.1 (by rw [← r.length]; exact q.2))⟩
  have hlt : i < Ps.length := by
    rw [← r.length]
    exact (List.getElem?_eq_some_iff.mp hi).1
  obtain ⟨y, hy, py⟩ := r.get (List.getElem?_eq_getElem hlt)
  obtain rfl : x = y := Option.some.inj (hi.symm.trans hy)
  exact hs H1 e i x _ σ' H' (List.getElem?_eq_getElem hlt) (m _ (List.getElem_mem hlt) _ _ _ q.1 py) q.1 q.2
theorem evp_call {sp : Sp} {dvs vs : List V} {E : XK} (h : Evl.EvA tr σ H vs) (hs : ∀ H1, Evl.Ex H H1 → ∀ Q : VK, (∀ v H2, Evl.Ex H1 H2 → P v H2 → Q v H2) → ∀ E : XK, sp (vs ++ dvs) H1 Q E) : Evp (tCall sp dvs E tr) σ H P := fun H1 e Q q =>
  h H1 e _ fun H2 e2 => hs H2 (e.trans e2) Q (fun v H3 e3 p => q v H3 (e2.trans e3) p) E
end
end BW
/-! What the written part says of classes of errors, as one look each. -/
namespace BW
open PySem PySem.Spec PyProof.Rows L2
/-- the class at C, its instances' attributes flds being no names of the class -/
def clsB (K : PySem.W.Frag) (C : Addr) (flds : List Str) : Bool :=
  decide (PySem.W.findIn K (.ref C) "__setattr__" = some (some (.builtin "object.__setattr__"))) && (decide (PySem.W.subIn K (.ref C) (.type "BaseException") = some true) && (decide (PySem.W.typeIn K (.ref C) = some (.type "type")) && (PySem.W.keepIn K (.ref C) &&
  (decide (PySem.W.findIn K (.ref C) "__getattribute__" = some (some (.builtin "BaseException.__getattribute__"))) && (decide (PySem.W.findIn K (.ref C) "__getattr__" = some none) && (PySem.W.hasDictIn K C && (decide (PySem.W.findIn K (.ref C) "__class__" = some (some (.builtin "object.__class__"))) &&
  (decide (PySem.W.findIn K (.ref C) "__eq__" = some (some (.builtin "object.__eq__"))) && (decide (PySem.W.findIn K (.ref C) "__ne__" = some (some (.builtin "object.__ne__"))) && (decide (PySem.W.mroIn K C (.type "object") = some true) && flds.all fun f => decide (PySem.W.findIn K (.ref C) f = some none)))))))))))
structure ClsOk (K : PySem.W.Frag) (C : Addr) (flds : List Str) : Prop where
  sa : PySem.W.findIn K (.ref C) "__setattr__" = some (some (.builtin "object.__setattr__"))
  ex : PySem.W.subIn K (.ref C) (.type "BaseException") = some true
  ty : PySem.W.typeIn K (.ref C) = some (.type "type")
  kp : PySem.W.keepIn K (.ref C) = true
  ga : PySem.W.findIn K (.ref C) "__getattribute__" = some (some (.builtin "BaseException.__getattribute__"))
  gg : PySem.W.findIn K (.ref C) "__getattr__" = some none
  hd : PySem.W.hasDictIn K C = true
  ha : PySem.W.findIn K (.ref C) "__class__" = some (some (.builtin "object.__class__"))
  eq : PySem.W.findIn K (.ref C) "__eq__" = some (some (.builtin "object.__eq__"))
  ne : PySem.W.findIn K (.ref C) "__ne__" = some (some (.builtin "object.__ne__"))
  ob : PySem.W.mroIn K C (.type "object") = some true
  no : ∀ f ∈ flds, PySem.W.findIn K (.ref C) f = some none
theorem clsB_ok {K : PySem.W.Frag} {C : Addr} {flds : List Str} (h : clsB K C flds = true) : ClsOk K C flds := by
  unfold clsB at h
  simp only [Bool.and_eq_true, decide_eq_true_eq, List.all_eq_true] at h
  obtain ⟨h1, h2, h3, h4, h5, h6, h7, h8, h9, h10, h11, h12⟩ := h
  exact ⟨h1, h2, h3, h4, h5, h6, h7, h8, h9, h10, h11, h12⟩
section
variable {K : PySem.W.Frag} {C : Addr} {flds : List Str}
theorem ClsOk.oex (h : ClsOk K C flds) {nm q : Str} {N : Addr} {bs bm : List Value} {sn : List Str} {sub : List Value} {ab : Bool} {col : Option Bool} {dd : Option Addr} {k0 k1 k2 k3 k5 : Option Value}
    (o : K.lookup C = some (excClassObj nm q C N bs bm true sn sub ab col dd k0 k1 k2 k3 k5 "ValueError.__new__")) (r : PySem.HandSPX.refsVE bm = true) : OexC K C :=
  ⟨⟨nm, q, N, bs, bm, sn, sub, ab, col, dd, k0, k1, k2, k3, k5, o, r⟩, h.sa, h.ex, h.ty, h.kp⟩
theorem ClsOk.xf (h : ClsOk K C flds) : XfC K C := ⟨h.ga, h.gg, h.ex, h.hd⟩
theorem ClsOk.exc (h : ClsOk K C flds) (hn : PySem.W.specialIn K (.builtin "object.__class__") "__get__" = some (some (.builtin "getset_descriptor.__get__"))) (ht : PySem.W.takesIn K (.builtin "object.__class__") = some true) : ExcC K C := ⟨h.ga, h.gg, h.ex, h.hd, h.ha, hn, ht, h.ob⟩
theorem ClsOk.nes (h : ClsOk K C flds) : ExcNe K C := ⟨h.eq, h.ne, h.ob⟩
end
section
variable {P : Program} {w : World} {K : PySem.W.Frag} {mg : Str → Option Value} {base : Heap}
theorem e1_mk {nm f0 qual : Str} {st : Stmt} {C I : Addr} {fd : FuncData} (g : mg nm = some (.ref C)) (O : OexC K C) (b : ClsOk K C [f0]) (i : PySem.W.findIn K (.ref C) "__init__" = some (some (.ref I))) (t : PySem.W.typeIn K (.ref I) = some (.type "function")) (F : Fun K "__init__" qual st I fd)
    (ok : FnOk P w K mg base CX0 1 I fd ["self", f0] (spI1 K f0))
    (hb : ∀ (kV doc pm : Value) (an : Option Addr) (cdv ct : Value) (us : List Value), us.length = 2 → bindArgs (PySem.W.fnOf "__init__" qual (defArgs st) (defBody st) (defScope st) .none kV doc pm an cdv ct) ⟨us, []⟩ = pure ((["self", f0] : List Str).zip us))
    (hk : ∀ (kV doc pm : Value) (an : Option Addr) (cdv ct : Value) (us ws : List Value), us.length = 1 → ws.length = ([f0] : List Str).length → bindArgs (PySem.W.fnOf "__init__" qual (defArgs st) (defBody st) (defScope st) .none kV doc pm an cdv ct) ⟨us, ([f0] : List Str).zip ws⟩ = pure ((["self", f0] : List Str).zip (us ++ ws))) :
    E1 P w K mg base nm f0 C := ⟨g, O, b.xf, b.no f0 (List.mem_cons_self ..), I, fd, i, t, ok, kb_pos F 2 hb, kb_kw1 F hk⟩
theorem e2_mk {nm f0 f1 qual : Str} {st : Stmt} {C I : Addr} {fd : FuncData} (g : mg nm = some (.ref C)) (O : OexC K C) (b : ClsOk K C [f0, f1]) (i : PySem.W.findIn K (.ref C) "__init__" = some (some (.ref I))) (t : PySem.W.typeIn K (.ref I) = some (.type "function")) (F : Fun K "__init__" qual st I fd)
    (ok : FnOk P w K mg base CX0 1 I fd ["self", f0, f1] (spI2 K f0 f1))
    (hb : ∀ (kV doc pm : Value) (an : Option Addr) (cdv ct : Value) (us : List Value), us.length = 3 → bindArgs (PySem.W.fnOf "__init__" qual (defArgs st) (defBody st) (defScope st) .none kV doc pm an cdv ct) ⟨us, []⟩ = pure ((["self", f0, f1] : List Str).zip us))
    (hk : ∀ (kV doc pm : Value) (an : Option Addr) (cdv ct : Value) (us ws : List Value), us.length = 1 → ws.length = ([f1, f0] : List Str).length → bindArgs (PySem.W.fnOf "__init__" qual (defArgs st) (defBody st) (defScope st) .none kV doc pm an cdv ct) ⟨us, ([f1, f0] : List Str).zip ws⟩ = pure ((["self", f0, f1] : List Str).zip (us ++ ws.reverse))) :
    E2 P w K mg base nm f0 f1 C := ⟨g, O, b.xf, b.no f0 (List.mem_cons_self ..), b.no f1 (List.mem_cons_of_mem _ (List.mem_cons_self ..)), I, fd, i, t, ok, kb_pos F 3 hb, kb_kwR F hk⟩
end
end BW
namespace K00
open PySem PySem.Spec PyProof.Rows L2 BW
def topS (i : Nat) : Stmt := PySem.Challenge.pw_borderwords_k00_errors_keep_their_fields.main.body.getD i (.Pass ⟨0, 0, 0, 0⟩)
abbrev sStore : Stmt := topS 26
abbrev sNext : Stmt := topS 27
section
variable {P : Program} {w : World} {K : PySem.W.Frag} {mg : Str → Option Value} {base : Heap}
theorem scSt : FnScope ["_law_script", "_law_cell"] ["_law_script"] (defScope sStore) := ⟨rfl, rfl, rfl, by decide +kernel, rfl, by decide +kernel, by decide +kernel⟩
def spStore (K : PySem.W.Frag) : Sp := fun vs H Q _ => ∃ (a : Addr) (ns : List Int), vs = [.ref a] ∧ SqL K H a (ns.map V.int) ∧ ns.length ≤ 63 ∧ ∀ p H', Same H H' → H p = none → Pen H' p 0 → Q (.ref p) H'
theorem ok_store {f : Addr} {fd : FuncData} {k : Nat} (F : Fun K "_law_store" "_law_store" sStore f fd) (mi : mg "int" = none) : FnOk P w K mg base CX0 (k + 1) f fd ["_law_script"] (spStore K) := by
  refine F.ok scSt (fun vs H Q E h => ?_) (fun cdv A outer s H vs Q E hr h => ?_)
  · obtain ⟨a, ns, rfl, _⟩ := h
    rfl
  · obtain ⟨a, ns, rfl, hS, hlen, q⟩ := h
    refine ⟨_, pss_one (ps_ret (pe_lst (pa_cons (pe_lc (own := [("_law_cell", 1)]) (g := gName 1) (tt := tYes) rfl scSt.nd (pi_list (pe_slice sl_list (pv 0) po_none (po_some pe_int)))
      (blkOk_by (N := ["_law_script", "_law_cell"]) (sc := defScope sStore) (by decide +kernel)) (fun _ _ _ _ _ => pg_name (i := 1) scSt.nd rfl (Or.inl rfl)) (fun _ _ _ _ _ => pts_nil)
      (fun _ _ _ _ _ => pe_callTy call_int1 (by rfl) mi (by decide +kernel) (pa_cons (pv 1) pa_nil))) (pa_cons pe_int (pa_cons pe_int pa_nil))))), ?_⟩
    obtain ⟨ms, em, lm⟩ := cut_int ns 60
    refine ⟨.ref a, rfl, 60, rfl, a, ns.map V.int, rfl, hS, fun c nc => ⟨c, rfl, ⟨_, .inl (.inl upd_same)⟩, fun D hD => ?_⟩⟩
    rw [em] at hD ⊢
    have s1 : Same H (upd H c (.lst (ms.map V.int))) := same_new nc
    refine lc_mapL (K := K) (ys := ms.map V.int) (i0 := 1) (vs := [1]) (.inl (.inl upd_same)) hD rfl (by rw [List.length_map]; omega) (fun _ => rfl) (fun i x y hx hy H2 e Q2 q2 => ?_) (fun H2 e hd => ?_)
    · obtain rfl : x = y := Option.some.inj (hx.symm.trans hy)
      rw [List.getElem?_map] at hx
      cases hm : ms[i]? with
      | none =>
        rw [hm] at hx
        cases hx
      | some z =>
        rw [hm] at hx
        obtain rfl : V.int z = x := Option.some.inj hx
        exact ⟨_, rfl, .inl ⟨z, rfl, q2 H2 (Same.refl H2)⟩⟩
    · refine ⟨by show 3 ≤ sizeLine; decide, fun p np => ?_⟩
      refine q p _ ((s1.trans e).trans (same_new np)) (s1.free (e.free np)) ⟨D, ms, 0, 0, upd_same, ?_, ?_, by omega, Nat.le_refl 0, Int.le_refl 0⟩
      · rw [upd_ne (ne_of_none hd np)]
        exact hd
      · exact (ne_of_none hd np).symm
theorem dp_ints (K : PySem.W.Frag) (H : Hp) : ∀ ns : List Int, DpAll K H (ns.map V.int) (ns.map PyData.int)
  | [] => .nil
  | n :: ns => .cons (.int n) (dp_ints K H ns)
theorem at_mod (x : Int) (t : List Int) (j : Nat) : ∃ c : Int, atI ((x :: t).map V.int) ((j : Int) % (((x :: t).map V.int).length : Int)) = some (.int c) := by
  have hl : j % (x :: t).length < (x :: t).length := Nat.mod_lt _ (Nat.succ_pos _)
  refine ⟨(x :: t)[j % (x :: t).length], ?_⟩
  rw [List.length_map, ← Int.natCast_emod]
  exact atI_nat (by rw [List.getElem?_map, List.getElem?_eq_getElem hl]; rfl)
theorem mix_bound (a : Int) (j : Nat) (h0 : 0 ≤ a) (h1 : a < 2147483647) (hj : j ≤ 100000) : (a * (2 * (j : Int) + 1753) + 61027 * (j : Int) * (j : Int) + 77849).natAbs < 2 ^ 64 := by
  have e1 : a * (2 * (j : Int) + 1753) ≤ 2147483647 * 201753 := Int.mul_le_mul (by omega) (by omega) (by omega) (by omega)
  have e2 : 0 ≤ a * (2 * (j : Int) + 1753) := Int.mul_nonneg h0 (by omega)
  have e3 : 61027 * (j : Int) * (j : Int) ≤ 61027 * 100000 * 100000 := Int.mul_le_mul (by omega) (by omega) (by omega) (by omega)
  have e4 : 0 ≤ 61027 * (j : Int) * (j : Int) := Int.mul_nonneg (by omega) (by omega)
  omega
theorem scNx : FnScope ["_law_store_here", "_law_many", "_law_rest", "_law_at", "_law_cell", "_law_mixed"] ["_law_store_here", "_law_many"] (defScope sNext) := ⟨rfl, rfl, rfl, by decide +kernel, rfl, by decide +kernel, by decide +kernel⟩
def spNext : Sp := fun vs H Q _ => ∃ (p : Addr) (n : Nat) (m : Int), vs = [.ref p, .int m] ∧ Pen H p n ∧ n ≤ 100000 ∧ 0 < m ∧ m.natAbs < 2 ^ 200 ∧
  ∀ (r : Int) H', 0 ≤ r → r < m → Kp p H H' → Pen H' p (n + 1) → Q (.int r) H'
theorem ok_next {f : Addr} {fd : FuncData} {k : Nat} (F : Fun K "_law_next" "_law_next" sNext f fd) (mi : mg "int" = none) (ml : mg "len" = none) (ma : mg "abs" = none) : FnOk P w K mg base CX0 (k + 1) f fd ["_law_store_here", "_law_many"] spNext := by
  refine F.ok scNx (fun vs H Q E h => ?_) (fun cdv A outer s H vs Q E hr h => ?_)
  · obtain ⟨p, n, m, rfl, _⟩ := h
    rfl
  · obtain ⟨p, n, m, rfl, hP, hn, m0, m1, q⟩ := h
    have nd := scNx.nd
    have hu := hu_of hr
    refine ⟨_, pss_cons (ps_if (pt_cmpR op_gt (pe_ix ix_list (pv 0) pe_int (fun _ _ => rfl)) pe_int (nomark _))
        (pss_cons (ps_set (i := 2) nd rfl (.inl rfl) (pe_callTy call_int1 (by rfl) mi (by decide +kernel) (pa_cons (pe_ix ix_list (pv 0) pe_int (fun _ _ => rfl)) pa_nil)))
          (pss_cons (ps_asg (pe_op op_fdivW (pv 2) (pv 1)) (pg_sub (pv 0) pe_int set_list))
          (pss_one (ps_ret (pe_op op_mod (pe_callTy call_int1 (by rfl) mi (by decide +kernel) (pa_cons (pv 2) pa_nil)) (pv 1))))))
        pss_nil)
      (pss_cons (ps_set (i := 3) nd rfl (.inl rfl) (pe_ix ix_list (pv 0) pe_int (fun _ _ => rfl)))
      (pss_cons (ps_asg (pe_op op_add (pv 3) pe_int) (pg_sub (pv 0) pe_int set_list))
      (pss_cons (ps_set (i := 4) nd rfl (.inl rfl) (pe_op op_add (pe_op op_mul pe_int (pv 3)) pe_int))
      (C8.pss_cut (ps_if (pt_cmpR (op_neD hr.units) (pe_ix ix_list (pv 0) pe_int (fun _ _ => rfl)) (pe_lst pa_nil) (nomark _))
        (pss_one (ps_set (i := 4) nd rfl (.inl rfl) (pe_ix ix_list (pe_ix ix_list (pv 0) pe_int (fun _ _ => rfl))
          (pe_op op_mod (pe_callTy call_int1 (by rfl) mi (by decide +kernel) (pa_cons (pv 3) pa_nil)) (pe_callB call_len_seq (by rfl) ml PySem.boot_len (pa_cons (pe_ix ix_list (pv 0) pe_int (fun _ _ => rfl)) pa_nil))) (fun _ _ => rfl))))
        pss_nil)
      (C8.pss_cut (ps_if (PW.pt (pw_and (pt_cmpR op_lt (pv 3) (pe_callB call_len_seq (by rfl) ml PySem.boot_len (pa_cons (pe_ix ix_list (pv 0) pe_int (fun _ _ => rfl)) pa_nil)) (nomark _))
          (pw_and1 (pt_cmpR op_ge (pe_callB call_abs (by rfl) ma (by decide +kernel) (pa_cons (pv 4) pa_nil)) (pe_op op_pow pe_int pe_int) (nomark _)))))
        (pss_cons (ps_set (i := 2) nd rfl (.inl rfl) (pe_op op_add (pe_op op_mul pe_int (pe_op op_sub (pe_callB call_abs (by rfl) ma (by decide +kernel) (pa_cons (pe_callTy call_int1 (by rfl) mi (by decide +kernel) (pa_cons (pv 4) pa_nil)) pa_nil)) (pe_op op_pow pe_int pe_int)))
            (pe_callTy call_int1 (by rfl) mi (by decide +kernel) (pa_cons (pe_cmpR op_lt (pv 4) pe_int (nomark _)) pa_nil))))
          (pss_cons (ps_asg (pe_op op_fdivW (pv 2) (pv 1)) (pg_sub (pv 0) pe_int set_list))
          (pss_one (ps_ret (pe_op op_mod (pe_callTy call_int1 (by rfl) mi (by decide +kernel) (pa_cons (pv 2) pa_nil)) (pv 1))))))
        pss_nil)
      (pss_cons (ps_set (i := 5) nd rfl (.inl rfl) (pe_op op_mod (pe_callTy call_int1 (by rfl) mi (by decide +kernel) (pa_cons (pe_op op_pow
          (pe_op op_add (pe_op op_add (pe_op op_mod (pe_callTy call_int1 (by rfl) mi (by decide +kernel) (pa_cons (pv 4) pa_nil)) pe_int) (pe_op op_mul pe_int (pv 3))) pe_int) pe_int) pa_nil)) pe_int))
      (pss_cons (ps_set (i := 5) nd rfl (.inl rfl) (pe_op op_mod (pe_callTy call_int1 (by rfl) mi (by decide +kernel) (pa_cons (pe_op op_pow
          (pe_op op_add (pe_op op_add (pe_op op_mul (pv 5) (pe_op op_add (pe_op op_mul pe_int (pv 3)) pe_int)) (pe_op op_mul (pe_op op_mul pe_int (pv 3)) (pv 3))) pe_int) pe_int) pa_nil)) pe_int))
      (pss_one (ps_ret (pe_op op_mod (pe_callTy call_int1 (by rfl) mi (by decide +kernel) (pa_cons (pe_op op_fdiv (pv 5) pe_int) pa_nil)) (pv 1))))))))))), ?_⟩
    obtain ⟨L, ns, j, r, eP, eL, pL, ln, jn, r0⟩ := hP
    have dv : ∀ x : Int, CDivW x m := fun x => wide_div m0 m1 (by decide) (by decide)
    have fin : ∀ (c x : Int) (i : Nat) H1, Kp p H H1 → H1 L = some (.lst (ns.map V.int)) → i ≤ n + 1 → 0 ≤ x → H1 p = some (.lst [.ref L, .int (i : Int), .int x]) → Q (.int (c % m)) H1 := fun c x i H1 e1 e2 e3 e4 e5 =>
      q _ _ (Int.emod_nonneg _ (by omega)) (Int.emod_lt_of_pos _ m0) e1 ⟨L, ns, i, x, e5, e2, pL, ln, e3, e4⟩
    refine ⟨.ref p, rfl, p, _, 2, .int r, rfl, rfl, .inl (.inl eP), atI_nat (j := 2) rfl, r, 0, rfl, rfl, _, rfl, ite2 (fun c => ?_) (fun c => ?_)⟩
    · refine ⟨.ref p, rfl, p, _, 2, .int r, rfl, rfl, .inl (.inl eP), atI_nat (j := 2) rfl, .inl ⟨r, rfl, ?_⟩⟩
      refine ⟨.int r, rfl, .int m, rfl, r, m, rfl, rfl, dv r, ?_⟩
      refine ⟨.ref p, rfl, p, _, 2, 2, rfl, rfl, eP, rfl, ?_⟩
      refine ⟨.int r, rfl, .inl ⟨r, rfl, .int m, rfl, r, m, rfl, rfl, m0, ?_⟩⟩
      exact fin r (r / m) j _ Kp.upd ((upd_ne pL.symm).trans eL) (by omega) (Int.ediv_nonneg r0 (by omega)) upd_same
    · refine ⟨.ref p, rfl, p, _, 1, .int j, rfl, rfl, .inl (.inl eP), atI_nat (j := 1) rfl, ?_⟩
      refine ⟨.int j, rfl, j, 1, rfl, rfl, .ref p, rfl, p, _, 1, 1, rfl, rfl, eP, rfl, ?_⟩
      refine ⟨.int j, rfl, 61027, j, rfl, rfl, .inl ⟨by decide, by decide⟩, _, _, rfl, rfl, ?_⟩
      have eP1 : (upd H p (.lst [.ref L, .int ((j : Int) + 1), .int r])) p = some (.lst [.ref L, .int ((j + 1 : Nat) : Int), .int r]) := upd_same
      have eL1 : (upd H p (.lst [.ref L, .int ((j : Int) + 1), .int r])) L = some (.lst (ns.map V.int)) := (upd_ne pL.symm).trans eL
      refine ⟨fun σ H1 => ∃ c : Int, σ = [some (.ref p), some (.int m), none, some (.int j), some (.int c), none] ∧ Kp p H H1 ∧ H1 L = some (.lst (ns.map V.int)) ∧ H1 p = some (.lst [.ref L, .int ((j + 1 : Nat) : Int), .int r]), ?_, ?_⟩
      · refine ⟨.ref p, rfl, p, _, 0, .ref L, rfl, rfl, .inl (.inl eP1), atI_nat (j := 0) rfl, Nat.zero_le _, fun b nb => ?_⟩
        have e0 : Kp p H (upd (upd H p (.lst [.ref L, .int ((j : Int) + 1), .int r])) b (.lst [])) := Kp.trans Kp.upd (Same.kp (same_new nb))
        have eP2 := same_new (o := .lst []) nb _ _ eP1
        have eL2 := same_new (o := .lst []) nb _ _ eL1
        refine ⟨.list (ns.map .int), .list [], .lst (.inl (.inl eL2)) (dp_ints _ _ ns), .lst (.inl (.inl upd_same)) .nil, PySem.W.shaped_ints ns, rfl, _, rfl, ite2 (fun c => ?_) (fun c => ?_)⟩
        · cases ns with
          | nil => exact Bool.noConfusion (show false = true from c)
          | cons x t =>
            obtain ⟨c0, hc0⟩ := at_mod x t j
            refine ⟨.ref p, rfl, p, _, 0, .ref L, rfl, rfl, .inl (.inl eP2), atI_nat (j := 0) rfl, .int j, rfl, .inl ⟨j, rfl, ?_⟩⟩
            refine ⟨.ref p, rfl, p, _, 0, .ref L, rfl, rfl, .inl (.inl eP2), atI_nat (j := 0) rfl, L, _, rfl, .inl (.inl (.inl eL2)), j, _, rfl, rfl, ?_, ?_⟩
            · show (0 : Int) < _
              rw [List.length_map, List.length_cons]
              omega
            · exact ⟨L, _, _, .int c0, rfl, rfl, .inl (.inl eL2), hc0, c0, rfl, e0, eL2, eP2⟩
        · exact ⟨_, rfl, e0, eL2, eP2⟩
      · rintro σ H1 ⟨c, rfl, eK, eL1, eP1⟩
        refine ⟨fun σ H2 => σ = [some (.ref p), some (.int m), none, some (.int j), some (.int c), none] ∧ H2 = H1, ?_, ?_⟩
        · refine ⟨.int j, rfl, .ref p, rfl, p, _, 0, .ref L, rfl, rfl, .inl (.inl eP1), atI_nat (j := 0) rfl, L, _, rfl, .inl (.inl (.inl eL1)), j, _, rfl, rfl, _, rfl, ite2 (fun c1 => ?_) (fun c1 => ?_)⟩
          · refine ⟨.int c, rfl, c, rfl, 10, 18, rfl, rfl, ⟨by decide, by decide, by decide⟩, _, _, rfl, rfl, _, rfl, ite2 (fun c2 => ?_) (fun c2 => ?_)⟩
            · refine ⟨.int c, rfl, .inl ⟨c, rfl, c, rfl, 10, 18, rfl, rfl, ⟨by decide, by decide, by decide⟩, _, _, rfl, rfl, 2, _, rfl, rfl, .inl ⟨by decide, by decide⟩, ?_⟩⟩
              refine ⟨.int c, rfl, c, 0, rfl, rfl, .inr ⟨_, rfl, _, _, rfl, rfl, ?_⟩⟩
              have x0 : 0 ≤ 2 * ((if c < 0 then -c else c) - 10 ^ (18 : Int).toNat) + (if decide (c < 0) = true then 1 else 0) := by
                have z : (10 : Int) ^ (18 : Int).toNat ≤ (if c < 0 then -c else c) := of_decide_eq_true c2
                split <;> omega
              refine ⟨_, rfl, .int m, rfl, _, m, rfl, rfl, dv _, ?_⟩
              refine ⟨.ref p, rfl, p, _, 2, 2, rfl, rfl, eP1, rfl, ?_⟩
              refine ⟨_, rfl, .inl ⟨_, rfl, .int m, rfl, _, m, rfl, rfl, m0, ?_⟩⟩
              exact fin _ _ (j + 1) _ (eK.trans Kp.upd) ((upd_ne pL.symm).trans eL1) (by omega) (Int.ediv_nonneg x0 (Int.le_of_lt m0)) upd_same
            · exact ⟨rfl, rfl⟩
          · exact iteF ⟨rfl, rfl⟩
        · rintro σ H2 ⟨rfl, rfl⟩
          refine ⟨.int c, rfl, .inl ⟨c, rfl, c, 2147483549, rfl, rfl, (by show (0 : Int) < 2147483549; decide), .int j, rfl, 77849, j, rfl, rfl, .inl ⟨by decide, by decide⟩, _, _, rfl, rfl, _, _, rfl, rfl, _, 5, rfl, rfl, ?_, ?_⟩⟩
          · refine ⟨by decide, by decide, ?_⟩
            show (c % 2147483549 + 77849 * (j : Int) + 1409).natAbs < 2 ^ 64
            omega
          · refine .inl ⟨_, rfl, _, 2147483647, rfl, rfl, (by show (0 : Int) < 2147483647; decide), ?_⟩
            obtain ⟨y, hy⟩ : ∃ y : Int, y = ((c % 2147483549 + 77849 * (j : Int) + 1409) ^ (5 : Int).toNat) % 2147483647 := ⟨_, rfl⟩
            have y0 : 0 ≤ y := by
              rw [hy]
              exact Int.emod_nonneg _ (by decide)
            have y1 : y < 2147483647 := by
              rw [hy]
              exact Int.emod_lt_of_pos _ (by decide)
            refine ⟨.int y, by rw [hy]; rfl, .int j, rfl, 2, j, rfl, rfl, .inl ⟨by decide, by decide⟩, _, _, rfl, rfl, y, _, rfl, rfl, .inl ⟨by omega, by omega⟩, ?_⟩
            refine ⟨.int j, rfl, 61027, j, rfl, rfl, .inl ⟨by decide, by decide⟩, .int j, rfl, _, j, rfl, rfl, .inr ⟨by omega, by omega⟩, _, _, rfl, rfl, _, _, rfl, rfl, _, 3, rfl, rfl, ?_, ?_⟩
            · exact ⟨by decide, by decide, mix_bound y j y0 y1 (by omega)⟩
            · refine .inl ⟨_, rfl, _, 2147483579, rfl, rfl, (by show (0 : Int) < 2147483579; decide), ?_⟩
              refine ⟨_, rfl, _, 64, rfl, rfl, ⟨by decide, by decide⟩, .inl ⟨_, rfl, .int m, rfl, _, m, rfl, rfl, m0, ?_⟩⟩
              exact fin _ r (j + 1) _ eK eL1 (by omega) r0 eP1
end
end K00
namespace K00
open PySem PySem.Spec PyProof.Rows L2 BW
abbrev sClasses : Stmt := topS 32
abbrev sStands : Stmt := topS 33
/-- which class is below which -/
def kb (i j : Nat) : Bool := decide (j = i) || (decide (j = 16) && (decide (i = 13) || (decide (i = 14) || decide (i = 15))))
def odd6 : List Value := [.type "KeyError", .type "IndexError", .type "TypeError", .type "ArithmeticError", .type "RuntimeError", .type "AttributeError"]
structure Txt (K : PySem.W.Frag) (mg : Str → Option Value) (cls : Nat → Addr) (CW : Addr) : Prop where
  isi : mg "isinstance" = none
  rng : mg "range" = none
  ve : mg "ValueError" = none
  x0 : mg "KeyError" = none
  x1 : mg "IndexError" = none
  x2 : mg "TypeError" = none
  x3 : mg "ArithmeticError" = none
  x4 : mg "RuntimeError" = none
  x5 : mg "AttributeError" = none
  gW : mg "WordsError" = some (.ref CW)
  g0 : mg "BadRegion" = some (.ref (cls 0))
  g1 : mg "BadWorld" = some (.ref (cls 1))
  g2 : mg "BadSaying" = some (.ref (cls 2))
  g3 : mg "BadBook" = some (.ref (cls 3))
  g4 : mg "BadMap" = some (.ref (cls 4))
  g5 : mg "BadWord" = some (.ref (cls 5))
  g6 : mg "BadSize" = some (.ref (cls 6))
  g7 : mg "BadLimit" = some (.ref (cls 7))
  g8 : mg "BadFilm" = some (.ref (cls 8))
  g9 : mg "BadNumber" = some (.ref (cls 9))
  g10 : mg "BadPaper" = some (.ref (cls 10))
  g11 : mg "BadDesk" = some (.ref (cls 11))
  g12 : mg "Misfit" = some (.ref (cls 12))
  g13 : mg "NoLand" = some (.ref (cls 13))
  g14 : mg "NoSaying" = some (.ref (cls 14))
  g15 : mg "NoName" = some (.ref (cls 15))
  g16 : mg "Missing" = some (.ref (cls 16))
  g17 : mg "Twice" = some (.ref (cls 17))
  g18 : mg "Impossible" = some (.ref (cls 18))
  g19 : mg "TooMany" = some (.ref (cls 19))
  g20 : mg "Nothing" = some (.ref (cls 20))
  g21 : mg "BadText" = some (.ref (cls 21))
  g22 : mg "BadLine" = some (.ref (cls 22))
  S : ∀ i, i < 23 → ExcC K (cls i)
  kit : ∀ i j, i < 23 → j < 23 → PySem.W.kitOne K (.ref (cls i)) (.ref (cls j)) = some (kb i j)
  kW : ∀ i, i < 23 → PySem.W.kitOne K (.ref (cls i)) (.ref CW) = some true
  kV : ∀ i, i < 23 → PySem.W.kitOne K (.ref (cls i)) (.type "ValueError") = some true
  kN : ∀ i, i < 23 → PySem.W.kitAny K (.ref (cls i)) odd6 = some false
section
variable {P : Program} {w : World} {K : PySem.W.Frag} {mg : Str → Option Value} {base : Heap} {cls : Nat → Addr} {CW : Addr}
theorem ev_kit (T : Txt K mg cls CW) {i j : Nat} {v : V} {σ : L2.St} {H : Hp} (hi : i < 23) (hj : j < 23) (hv : Err (cls i) v H) (hs : σ[0]? = some (some v)) :
    Evl.Ev (tCB (rIsA K) (tCons (tVar 0) (tCons (tC (.ref (cls j))) tNil))) σ H (.bl (kb i j)) := Evl.ev_cb (Evl.ea_cons (Evl.ev_var hs) (Evl.ea_cons Evl.ev_c Evl.ea_nil)) (rc_isA hv (T.S i hi) (.own _) (T.kit i j hi hj))
theorem el_catV {σ : L2.St} {H : Hp} {ta tb : TE} {p : Addr} {xs ys : List V} (ha : Evl.Ev ta σ H (.ref p)) (hp : H p = some (.lst xs)) (hb : Evl.EvL tb σ H ys) (hl : xs.length + ys.length ≤ 100000) : Evl.EvL (tOp rCat ta tb) σ H (xs ++ ys) := fun H1 e Q q =>
  ha H1 e _ fun H2 e2 => hb H2 (e.trans e2) _ fun p' H3 _ e3 hp' => ⟨p, p', xs, ys, rfl, rfl, ((e.trans e2).trans e3) _ _ hp, hp', Evl.sz_of hl, fun o no => q o _ (Evl.fresh_back (e2.trans e3) no) ((e2.trans e3).trans (Evl.Ex.new no)) upd_same⟩
theorem scCl : FnScope ["_law_error", "_law_told"] ["_law_error"] (defScope sClasses) := ⟨rfl, rfl, rfl, by decide +kernel, rfl, by decide +kernel, by decide +kernel⟩
def row (i : Nat) : List V := (List.range 23).map fun j => .bl (kb i j)
def spClasses (cls : Nat → Addr) : Sp := fun vs H Q _ => ∃ (i : Nat) (v : V), vs = [v] ∧ i < 23 ∧ Err (cls i) v H ∧ Evl.RetL (row i) H Q
theorem ok_classes {f : Addr} {fd : FuncData} {k : Nat} (T : Txt K mg cls CW) (F : Fun K "_law_classes" "_law_classes" sClasses f fd) : FnOk P w K mg base CX0 (k + 1) f fd ["_law_error"] (spClasses cls) := by
  refine F.ok scCl (fun vs H Q E h => ?_) (fun cdv A outer s H vs Q E hr h => ?_)
  · obtain ⟨i, v, rfl, _⟩ := h
    rfl
  · obtain ⟨i, v, rfl, hi, hv, q⟩ := h
    have nd := scCl.nd
    refine ⟨_, pss_cons (ps_set (i := 1) nd rfl (.inl rfl) (pe_lst (pa_cons (pe_callB call_isA (by rfl) T.isi (by decide +kernel) (pa_cons (pv 0) (pa_cons (pe_glob (v := .ref (cls 0)) (by rfl) T.g0 rfl) pa_nil))) (pa_cons (pe_callB call_isA (by rfl) T.isi (by decide +kernel) (pa_cons (pv 0) (pa_cons (pe_glob (v := .ref (cls 1)) (by rfl) T.g1 rfl) pa_nil))) (pa_cons (pe_callB call_isA (by rfl) T.isi (by decide +kernel) (pa_cons (pv 0) (pa_cons (pe_glob (v := .ref (cls 2)) (by rfl) T.g2 rfl) pa_nil))) (pa_cons (pe_callB call_isA (by rfl) T.isi (by decide +kernel) (pa_cons (pv 0) (pa_cons (pe_glob (v := .ref (cls 3)) (by rfl) T.g3 rfl) pa_nil))) pa_nil))))))
      (pss_cons (ps_set (i := 1) nd rfl (.inl rfl) (pe_op op_cat (pv 1)
        (pe_lst (pa_cons (pe_callB call_isA (by rfl) T.isi (by decide +kernel) (pa_cons (pv 0) (pa_cons (pe_glob (v := .ref (cls 4)) (by rfl) T.g4 rfl) pa_nil))) (pa_cons (pe_callB call_isA (by rfl) T.isi (by decide +kernel) (pa_cons (pv 0) (pa_cons (pe_glob (v := .ref (cls 5)) (by rfl) T.g5 rfl) pa_nil))) (pa_cons (pe_callB call_isA (by rfl) T.isi (by decide +kernel) (pa_cons (pv 0) (pa_cons (pe_glob (v := .ref (cls 6)) (by rfl) T.g6 rfl) pa_nil))) (pa_cons (pe_callB call_isA (by rfl) T.isi (by decide +kernel) (pa_cons (pv 0) (pa_cons (pe_glob (v := .ref (cls 7)) (by rfl) T.g7 rfl) pa_nil))) pa_nil)))))))
      (pss_cons (ps_set (i := 1) nd rfl (.inl rfl) (pe_op op_cat (pv 1)
        (pe_lst (pa_cons (pe_callB call_isA (by rfl) T.isi (by decide +kernel) (pa_cons (pv 0) (pa_cons (pe_glob (v := .ref (cls 8)) (by rfl) T.g8 rfl) pa_nil))) (pa_cons (pe_callB call_isA (by rfl) T.isi (by decide +kernel) (pa_cons (pv 0) (pa_cons (pe_glob (v := .ref (cls 9)) (by rfl) T.g9 rfl) pa_nil))) (pa_cons (pe_callB call_isA (by rfl) T.isi (by decide +kernel) (pa_cons (pv 0) (pa_cons (pe_glob (v := .ref (cls 10)) (by rfl) T.g10 rfl) pa_nil))) (pa_cons (pe_callB call_isA (by rfl) T.isi (by decide +kernel) (pa_cons (pv 0) (pa_cons (pe_glob (v := .ref (cls 11)) (by rfl) T.g11 rfl) pa_nil))) pa_nil)))))))
      (pss_cons (ps_set (i := 1) nd rfl (.inl rfl) (pe_op op_cat (pv 1)
        (pe_lst (pa_cons (pe_callB call_isA (by rfl) T.isi (by decide +kernel) (pa_cons (pv 0) (pa_cons (pe_glob (v := .ref (cls 12)) (by rfl) T.g12 rfl) pa_nil))) (pa_cons (pe_callB call_isA (by rfl) T.isi (by decide +kernel) (pa_cons (pv 0) (pa_cons (pe_glob (v := .ref (cls 13)) (by rfl) T.g13 rfl) pa_nil))) (pa_cons (pe_callB call_isA (by rfl) T.isi (by decide +kernel) (pa_cons (pv 0) (pa_cons (pe_glob (v := .ref (cls 14)) (by rfl) T.g14 rfl) pa_nil))) (pa_cons (pe_callB call_isA (by rfl) T.isi (by decide +kernel) (pa_cons (pv 0) (pa_cons (pe_glob (v := .ref (cls 15)) (by rfl) T.g15 rfl) pa_nil))) pa_nil)))))))
      (pss_cons (ps_set (i := 1) nd rfl (.inl rfl) (pe_op op_cat (pv 1)
        (pe_lst (pa_cons (pe_callB call_isA (by rfl) T.isi (by decide +kernel) (pa_cons (pv 0) (pa_cons (pe_glob (v := .ref (cls 16)) (by rfl) T.g16 rfl) pa_nil))) (pa_cons (pe_callB call_isA (by rfl) T.isi (by decide +kernel) (pa_cons (pv 0) (pa_cons (pe_glob (v := .ref (cls 17)) (by rfl) T.g17 rfl) pa_nil))) (pa_cons (pe_callB call_isA (by rfl) T.isi (by decide +kernel) (pa_cons (pv 0) (pa_cons (pe_glob (v := .ref (cls 18)) (by rfl) T.g18 rfl) pa_nil))) (pa_cons (pe_callB call_isA (by rfl) T.isi (by decide +kernel) (pa_cons (pv 0) (pa_cons (pe_glob (v := .ref (cls 19)) (by rfl) T.g19 rfl) pa_nil))) pa_nil)))))))
      (pss_one (ps_ret (pe_op op_cat (pv 1)
        (pe_lst (pa_cons (pe_callB call_isA (by rfl) T.isi (by decide +kernel) (pa_cons (pv 0) (pa_cons (pe_glob (v := .ref (cls 20)) (by rfl) T.g20 rfl) pa_nil))) (pa_cons (pe_callB call_isA (by rfl) T.isi (by decide +kernel) (pa_cons (pv 0) (pa_cons (pe_glob (v := .ref (cls 21)) (by rfl) T.g21 rfl) pa_nil))) (pa_cons (pe_callB call_isA (by rfl) T.isi (by decide +kernel) (pa_cons (pv 0) (pa_cons (pe_glob (v := .ref (cls 22)) (by rfl) T.g22 rfl) pa_nil))) pa_nil))))))))))), ?_⟩
    have e0 := Evl.Ex.refl H
    refine Evl.q_asgL (Evl.el_lst (Evl.ea_cons (ev_kit T hi (by decide) (mon_errA _ _ _ e0 hv) rfl) (Evl.ea_cons (ev_kit T hi (by decide) (mon_errA _ _ _ e0 hv) rfl) (Evl.ea_cons (ev_kit T hi (by decide) (mon_errA _ _ _ e0 hv) rfl) (Evl.ea_cons (ev_kit T hi (by decide) (mon_errA _ _ _ e0 hv) rfl) Evl.ea_nil)))) (by show 4 ≤ 100000; decide)) fun p0 H0 n0 a0 h0 => ?_
    have e1 : Evl.Ex H H0 := a0
    refine Evl.q_asgL (el_catV (Evl.ev_var rfl) h0 (Evl.el_lst (Evl.ea_cons (ev_kit T hi (by decide) (mon_errA _ _ _ e1 hv) rfl) (Evl.ea_cons (ev_kit T hi (by decide) (mon_errA _ _ _ e1 hv) rfl) (Evl.ea_cons (ev_kit T hi (by decide) (mon_errA _ _ _ e1 hv) rfl) (Evl.ea_cons (ev_kit T hi (by decide) (mon_errA _ _ _ e1 hv) rfl) Evl.ea_nil)))) (by show 4 ≤ 100000; decide)) (by show 4 + 4 ≤ 100000; decide)) fun p1 H1 n1 a1 h1 => ?_
    have e2 : Evl.Ex H H1 := e1.trans a1
    refine Evl.q_asgL (el_catV (Evl.ev_var rfl) h1 (Evl.el_lst (Evl.ea_cons (ev_kit T hi (by decide) (mon_errA _ _ _ e2 hv) rfl) (Evl.ea_cons (ev_kit T hi (by decide) (mon_errA _ _ _ e2 hv) rfl) (Evl.ea_cons (ev_kit T hi (by decide) (mon_errA _ _ _ e2 hv) rfl) (Evl.ea_cons (ev_kit T hi (by decide) (mon_errA _ _ _ e2 hv) rfl) Evl.ea_nil)))) (by show 4 ≤ 100000; decide)) (by show 8 + 4 ≤ 100000; decide)) fun p2 H2 n2 a2 h2 => ?_
    have e3 : Evl.Ex H H2 := e2.trans a2
    refine Evl.q_asgL (el_catV (Evl.ev_var rfl) h2 (Evl.el_lst (Evl.ea_cons (ev_kit T hi (by decide) (mon_errA _ _ _ e3 hv) rfl) (Evl.ea_cons (ev_kit T hi (by decide) (mon_errA _ _ _ e3 hv) rfl) (Evl.ea_cons (ev_kit T hi (by decide) (mon_errA _ _ _ e3 hv) rfl) (Evl.ea_cons (ev_kit T hi (by decide) (mon_errA _ _ _ e3 hv) rfl) Evl.ea_nil)))) (by show 4 ≤ 100000; decide)) (by show 12 + 4 ≤ 100000; decide)) fun p3 H3 n3 a3 h3 => ?_
    have e4 : Evl.Ex H H3 := e3.trans a3
    refine Evl.q_asgL (el_catV (Evl.ev_var rfl) h3 (Evl.el_lst (Evl.ea_cons (ev_kit T hi (by decide) (mon_errA _ _ _ e4 hv) rfl) (Evl.ea_cons (ev_kit T hi (by decide) (mon_errA _ _ _ e4 hv) rfl) (Evl.ea_cons (ev_kit T hi (by decide) (mon_errA _ _ _ e4 hv) rfl) (Evl.ea_cons (ev_kit T hi (by decide) (mon_errA _ _ _ e4 hv) rfl) Evl.ea_nil)))) (by show 4 ≤ 100000; decide)) (by show 16 + 4 ≤ 100000; decide)) fun p4 H4 n4 a4 h4 => ?_
    have e5 : Evl.Ex H H4 := e4.trans a4
    refine Evl.s_retL (el_catV (Evl.ev_var rfl) h4 (Evl.el_lst (Evl.ea_cons (ev_kit T hi (by decide) (mon_errA _ _ _ e5 hv) rfl) (Evl.ea_cons (ev_kit T hi (by decide) (mon_errA _ _ _ e5 hv) rfl) (Evl.ea_cons (ev_kit T hi (by decide) (mon_errA _ _ _ e5 hv) rfl) Evl.ea_nil))) (by show 3 ≤ 100000; decide)) (by show 20 + 3 ≤ 100000; decide)) fun p H9 np a9 hp => ?_
    exact q p H9 (Evl.fresh_back e5 np) (e5.trans a9) hp
theorem ev_isT {σ : L2.St} {H : Hp} {ta : TE} {tas : TA} {C : Addr} {x : V} {cs : List V} {us : List Value} {b : Bool} (ha : Evl.Ev ta σ H x) (hx : Err C x H) (S : ExcC K C) (hb : Evl.EvA tas σ H cs) (hc : Paired ClsV cs us) (hk : PySem.W.kitAny K (.ref C) us = some b) (hl : cs.length ≤ 100000) :
    Evl.Ev (tCB (rIsAT K) (tCons ta (tCons (tTup tas) tNil))) σ H (.bl b) := fun H1 e Q q =>
  ha H1 e _ fun H2 e2 => hb H2 (e.trans e2) _ fun H3 e3 => ⟨Evl.sz_of hl, fun p np => ⟨x, C, p, cs, us, b, rfl, mon_errA _ _ _ (((e.trans e2).trans e3).trans (Evl.Ex.new np)) hx, S, upd_same, hc, hk, q _ ((e2.trans e3).trans (Evl.Ex.new np))⟩⟩
theorem dp_bools (K : PySem.W.Frag) (H : Hp) : ∀ bs : List Bool, DpAll K H (bs.map V.bl) (bs.map PyData.bool)
  | [] => .nil
  | b :: bs => .cons (.bl b) (dp_bools K H bs)
theorem lay_bools : ∀ bs : List Bool, PyData.canLayAll0 (bs.map PyData.bool) = true
  | [] => rfl
  | b :: bs => by
    have ih := lay_bools bs
    simp only [List.map_cons, PyData.canLayAll0, PyData.canLay0, ih, Bool.and_self]
theorem depth_bools : ∀ bs : List Bool, PyData.depthAll (bs.map PyData.bool) ≤ 1
  | [] => Nat.zero_le _
  | b :: bs => by
    have ih := depth_bools bs
    simp only [List.map_cons, PyData.depthAll, PyData.depth]
    omega
theorem shaped_bools (bs : List Bool) : SeqAt.shaped (.list (bs.map PyData.bool)) = true := by
  have h1 := depth_bools bs
  have h2 : PyData.depth (.list (bs.map PyData.bool)) ≤ 64 := by
    simp only [PyData.depth]
    omega
  have h3 : PyData.canLay0 (.list (bs.map PyData.bool)) = true := by
    simp only [PyData.canLay0]
    exact lay_bools bs
  unfold SeqAt.shaped
  rw [h3, decide_eq_true h2]
  rfl
theorem row_is (i : Nat) : row i = ((List.range 23).map (kb i)).map V.bl := by
  unfold row
  rw [List.map_map]
  rfl
theorem spot_is (i j : Nat) : (V.bl (decide (V.int (j : Int) = V.int (i : Int)) || (decide (V.int (j : Int) = V.int 16) && inV (.int (i : Int)) [.int 13, .int 14, .int 15]))) = .bl (kb i j) := by
  have a1 : decide (V.int (j : Int) = V.int (i : Int)) = decide (j = i) := by
    by_cases h : j = i
    · subst h
      simp
    · rw [decide_eq_false h, decide_eq_false (fun z => h (by have := V.int.inj z; omega))]
  have a2 : ∀ (k n : Nat) , decide (V.int (k : Int) = V.int (n : Int)) = decide (k = n) := fun k n => by
    by_cases h : k = n
    · subst h
      simp
    · rw [decide_eq_false h, decide_eq_false (fun z => h (by have := V.int.inj z; omega))]
  have a3 : inV (.int (i : Int)) [.int 13, .int 14, .int 15] = (decide (i = 13) || (decide (i = 14) || decide (i = 15))) := by
    have e : ∀ n : Nat, decide ((n : Int) = (i : Int)) = decide (i = n) := fun n => by
      by_cases h : i = n
      · subst h
        simp
      · rw [decide_eq_false h, decide_eq_false (fun z => h (by omega))]
    have e1 := e 13
    have e2 := e 14
    have e3 := e 15
    show (decide (((13 : Nat) : Int) = (i : Int)) || (decide (((14 : Nat) : Int) = (i : Int)) || (decide (((15 : Nat) : Int) = (i : Int)) || false))) = _
    rw [e1, e2, e3, Bool.or_false]
  have a4 := a2 j 16
  unfold kb
  rw [a1, a3]
  show V.bl (decide (j = i) || (decide (V.int (j : Int) = V.int ((16 : Nat) : Int)) && _)) = _
  rw [a4]
theorem scSn : FnScope ["_law_error", "_law_at", "_law_spot"] ["_law_error", "_law_at"] (defScope sStands) := ⟨rfl, rfl, rfl, by decide +kernel, rfl, by decide +kernel, by decide +kernel⟩
def spStands (cls : Nat → Addr) : Sp := fun vs H Q _ => ∃ (i : Nat) (v : V), vs = [v, .int (i : Int)] ∧ i < 23 ∧ Err (cls i) v H ∧ Evl.RetV (.bl true) H Q
theorem ok_stands {f fC : Addr} {fd fdC : FuncData} {k : Nat} (T : Txt K mg cls CW) (F : Fun K "_law_stands" "_law_stands" sStands f fd) (G : FnOk P w K mg base CX0 (k + 1) fC fdC ["_law_error"] (spClasses cls)) (bC : Binds K fdC ["_law_error"] []) (gC : mg "_law_classes" = some (.ref fC)) (kC : PySem.W.keepIn K (.ref fC) = true) :
    FnOk P w K mg base CX0 (k + 2) f fd ["_law_error", "_law_at"] (spStands cls) := by
  refine F.ok scSn (fun vs H Q E h => ?_) (fun cdv A outer s H vs Q E hr h => ?_)
  · obtain ⟨i, v, rfl, _⟩ := h
    rfl
  · obtain ⟨i, v, rfl, hi, hv, q⟩ := h
    have nd := scSn.nd
    refine ⟨_, pss_cons (ps_if (PW.pt (pw_or (pt_not (pt_val (pe_callB call_isA (by rfl) T.isi (by decide +kernel) (pa_cons (pv 0) (pa_cons (pe_glob (v := .ref CW) (by rfl) T.gW rfl) pa_nil)))))
        (pw_or1 (pt_not (pt_val (pe_callB call_isA (by rfl) T.isi (by decide +kernel) (pa_cons (pv 0) (pa_cons (pe_bltn (v := .ty "ValueError") (by rfl) T.ve (by decide +kernel) rfl) pa_nil)))))))) (pss_one (ps_ret pe_bl)) pss_nil)
      (pss_cons (ps_if (pt_val (pe_callB call_isAT (by rfl) T.isi (by decide +kernel) (pa_cons (pv 0) (pa_cons (pe_tup (pa_cons (pe_bltn (v := .ty "KeyError") (by rfl) T.x0 (by decide +kernel) rfl) (pa_cons (pe_bltn (v := .ty "IndexError") (by rfl) T.x1 (by decide +kernel) rfl) (pa_cons (pe_bltn (v := .ty "TypeError") (by rfl) T.x2 (by decide +kernel) rfl) (pa_cons (pe_bltn (v := .ty "ArithmeticError") (by rfl) T.x3 (by decide +kernel) rfl) (pa_cons (pe_bltn (v := .ty "RuntimeError") (by rfl) T.x4 (by decide +kernel) rfl) (pa_cons (pe_bltn (v := .ty "AttributeError") (by rfl) T.x5 (by decide +kernel) rfl) pa_nil))))))) pa_nil)))) (pss_one (ps_ret pe_bl)) pss_nil)
      (pss_one (ps_ret (pe_cmpR (op_eqD hr.units) (pe_call G hr (by rfl) gC kC bC .nil pass0 (pa_cons (pv 0) pa_nil))
        (pe_lc (own := [("_law_spot", 2)]) (g := gName 2) (tt := tYes) rfl nd (pi_range1 rfl T.rng (pa_cons pe_int pa_nil)) (blkOk_by (N := ["_law_error", "_law_at", "_law_spot"]) (sc := defScope sStands) (by decide +kernel))
          (fun _ _ _ _ _ => pg_name (i := 2) nd rfl (Or.inl rfl)) (fun _ _ _ _ _ => pts_nil)
          (fun _ _ _ _ _ => pe_or (pe_cmpR op_eq (pv 2) (pv 1) (nomark _)) (pe_one (pe_and (pe_cmpR op_eq (pv 2) pe_int (nomark _)) (pe_one (pe_cmpR (show OpR _ _ (rIn K false) from op_in_seq) (pv 1) (pe_tup (pa_cons pe_int (pa_cons pe_int (pa_cons pe_int pa_nil)))) (by rfl)))))))
        (nomark _))))), ?_⟩
    refine Evl.q_when (b := false) (Evl.et_or (a := false) (b := false) (Evl.et_not (a := true) (Evl.et_B (Evl.ev_cb (Evl.ea_cons (Evl.ev_var rfl) (Evl.ea_cons Evl.ev_c Evl.ea_nil)) (rc_isA hv (T.S i hi) (.own _) (T.kW i hi)))))
      (fun _ => Evl.et_not (a := true) (Evl.et_B (Evl.ev_cb (Evl.ea_cons (Evl.ev_var rfl) (Evl.ea_cons Evl.ev_c Evl.ea_nil)) (rc_isA hv (T.S i hi) (.ty _) (T.kV i hi)))))) (fun z => nomatch z) (fun _ H1 e1 => ?_)
    have hv1 := mon_errA _ _ _ e1 hv
    refine Evl.q_when (b := false) (Evl.et_B (ev_isT (Evl.ev_var rfl) hv1 (T.S i hi) (Evl.ea_cons Evl.ev_c (Evl.ea_cons Evl.ev_c (Evl.ea_cons Evl.ev_c (Evl.ea_cons Evl.ev_c (Evl.ea_cons Evl.ev_c (Evl.ea_cons Evl.ev_c Evl.ea_nil)))))) (us := odd6) (.cons (.ty "KeyError") (.cons (.ty "IndexError") (.cons (.ty "TypeError") (.cons (.ty "ArithmeticError") (.cons (.ty "RuntimeError") (.cons (.ty "AttributeError") .nil)))))) (T.kN i hi) (by show 6 ≤ 100000; decide))) (fun z => nomatch z) (fun _ H2 e2 => ?_)
    have hv2 := mon_errA _ _ _ e2 hv1
    refine Evl.s_ret (v := .bl true) (Evl.ev_opLL (xs := row i) (ys := row i) (Evl.el_call (Evl.ea_cons (Evl.ev_var rfl) Evl.ea_nil) fun H3 e3 Q3 q3 _ => ⟨i, v, rfl, hi, mon_errA _ _ _ e3 hv2, q3⟩)
      (Evl.el_lcR1 (fun _ => true) (fun j => .bl (kb i j)) (Evl.ea_cons Evl.ev_c Evl.ea_nil) ⟨by decide, by decide⟩ (fun _ => rfl) (fun j H3 e3 hj H4 e4 Q4 q4 => q4 H4 (Evl.Ex.refl H4))
        (fun j H3 e3 hj _ => Evl.ev_is (Evl.ev_orV (Evl.ev_op (Evl.ev_var rfl) (Evl.ev_var rfl) (Evl.rv_eq rfl)) (fun _ => Evl.ev_andV (Evl.ev_op (Evl.ev_var rfl) Evl.ev_c (Evl.rv_eq rfl))
          (fun _ => Evl.ev_inU (Evl.ev_var rfl) (Evl.eu_tup (Evl.ea_cons Evl.ev_c (Evl.ea_cons Evl.ev_c (Evl.ea_cons Evl.ev_c Evl.ea_nil))) (by show 3 ≤ 100000; decide)) rfl rfl))) (spot_is i j)))
      (fun p r H3 hp hr3 e3 => fun H4 e4 Q4 q4 => ?_)) (fun H5 e5 => q.go ((e1.trans e2).trans e5))
    rw [row_is] at hp hr3
    refine ⟨.list (((List.range 23).map (kb i)).map PyData.bool), .list (((List.range 23).map (kb i)).map PyData.bool), .lst (.inl (.inl (e4 _ _ hp))) (dp_bools _ _ _), .lst (.inl (.inl (e4 _ _ hr3))) (dp_bools _ _ _), shaped_bools _, shaped_bools _, ?_⟩
    rw [SeqAt.eqv_refl _ (SeqAt.canLay_of_shaped (shaped_bools _))]
    exact q4 H4 (Evl.Ex.refl H4)
end
end K00
namespace K00
open PySem PySem.Spec PyProof.Rows L2 BW
section
variable {P : Program} {w : World} {K : PySem.W.Frag} {mg : Str → Option Value} {base : Heap} {cls : Nat → Addr} {CW : Addr}
theorem sc_BadRegion : FnScope ["self", "part"] ["self", "part"] (defScope (inClass (topS 2) 0)) := ⟨rfl, rfl, rfl, by decide +kernel, rfl, by decide +kernel, by decide +kernel⟩
theorem ok_BadRegion {f : Addr} {fd : FuncData} {k : Nat} (F : Fun K "__init__" "BadRegion.__init__" (inClass (topS 2) 0) f fd) : FnOk P w K mg base CX0 (k + 1) f fd ["self", "part"] (spI1 K "part") := by
  refine F.ok sc_BadRegion (fun vs H Q E h => ?_) (fun cdv A outer s H vs Q E hr h => ?_)
  · obtain ⟨a, C, x, rfl, _⟩ := h
    rfl
  · obtain ⟨a, C, x, rfl, O, no, ha, q⟩ := h
    refine ⟨_, pss_one (ps_ost (pv 0) (pv 1)), ?_⟩
    refine ⟨x, rfl, .ref a, rfl, a, C, rfl, O, no, .inl ⟨ha, fun d nd ne => ?_⟩⟩
    exact q d _ nd ne (fun b o hb h => by rw [upd_ne hb, upd_ne (ne_of_none h nd)]; exact h) upd_same (by rw [upd_ne ne, upd_same])
theorem sc_BadWorld : FnScope ["self", "part"] ["self", "part"] (defScope (inClass (topS 3) 0)) := ⟨rfl, rfl, rfl, by decide +kernel, rfl, by decide +kernel, by decide +kernel⟩
theorem ok_BadWorld {f : Addr} {fd : FuncData} {k : Nat} (F : Fun K "__init__" "BadWorld.__init__" (inClass (topS 3) 0) f fd) : FnOk P w K mg base CX0 (k + 1) f fd ["self", "part"] (spI1 K "part") := by
  refine F.ok sc_BadWorld (fun vs H Q E h => ?_) (fun cdv A outer s H vs Q E hr h => ?_)
  · obtain ⟨a, C, x, rfl, _⟩ := h
    rfl
  · obtain ⟨a, C, x, rfl, O, no, ha, q⟩ := h
    refine ⟨_, pss_one (ps_ost (pv 0) (pv 1)), ?_⟩
    refine ⟨x, rfl, .ref a, rfl, a, C, rfl, O, no, .inl ⟨ha, fun d nd ne => ?_⟩⟩
    exact q d _ nd ne (fun b o hb h => by rw [upd_ne hb, upd_ne (ne_of_none h nd)]; exact h) upd_same (by rw [upd_ne ne, upd_same])
theorem sc_BadSaying : FnScope ["self", "part"] ["self", "part"] (defScope (inClass (topS 4) 0)) := ⟨rfl, rfl, rfl, by decide +kernel, rfl, by decide +kernel, by decide +kernel⟩
theorem ok_BadSaying {f : Addr} {fd : FuncData} {k : Nat} (F : Fun K "__init__" "BadSaying.__init__" (inClass (topS 4) 0) f fd) : FnOk P w K mg base CX0 (k + 1) f fd ["self", "part"] (spI1 K "part") := by
  refine F.ok sc_BadSaying (fun vs H Q E h => ?_) (fun cdv A outer s H vs Q E hr h => ?_)
  · obtain ⟨a, C, x, rfl, _⟩ := h
    rfl
  · obtain ⟨a, C, x, rfl, O, no, ha, q⟩ := h
    refine ⟨_, pss_one (ps_ost (pv 0) (pv 1)), ?_⟩
    refine ⟨x, rfl, .ref a, rfl, a, C, rfl, O, no, .inl ⟨ha, fun d nd ne => ?_⟩⟩
    exact q d _ nd ne (fun b o hb h => by rw [upd_ne hb, upd_ne (ne_of_none h nd)]; exact h) upd_same (by rw [upd_ne ne, upd_same])
theorem sc_BadBook : FnScope ["self", "part"] ["self", "part"] (defScope (inClass (topS 5) 0)) := ⟨rfl, rfl, rfl, by decide +kernel, rfl, by decide +kernel, by decide +kernel⟩
theorem ok_BadBook {f : Addr} {fd : FuncData} {k : Nat} (F : Fun K "__init__" "BadBook.__init__" (inClass (topS 5) 0) f fd) : FnOk P w K mg base CX0 (k + 1) f fd ["self", "part"] (spI1 K "part") := by
  refine F.ok sc_BadBook (fun vs H Q E h => ?_) (fun cdv A outer s H vs Q E hr h => ?_)
  · obtain ⟨a, C, x, rfl, _⟩ := h
    rfl
  · obtain ⟨a, C, x, rfl, O, no, ha, q⟩ := h
    refine ⟨_, pss_one (ps_ost (pv 0) (pv 1)), ?_⟩
    refine ⟨x, rfl, .ref a, rfl, a, C, rfl, O, no, .inl ⟨ha, fun d nd ne => ?_⟩⟩
    exact q d _ nd ne (fun b o hb h => by rw [upd_ne hb, upd_ne (ne_of_none h nd)]; exact h) upd_same (by rw [upd_ne ne, upd_same])
theorem sc_BadMap : FnScope ["self", "part"] ["self", "part"] (defScope (inClass (topS 6) 0)) := ⟨rfl, rfl, rfl, by decide +kernel, rfl, by decide +kernel, by decide +kernel⟩
theorem ok_BadMap {f : Addr} {fd : FuncData} {k : Nat} (F : Fun K "__init__" "BadMap.__init__" (inClass (topS 6) 0) f fd) : FnOk P w K mg base CX0 (k + 1) f fd ["self", "part"] (spI1 K "part") := by
  refine F.ok sc_BadMap (fun vs H Q E h => ?_) (fun cdv A outer s H vs Q E hr h => ?_)
  · obtain ⟨a, C, x, rfl, _⟩ := h
    rfl
  · obtain ⟨a, C, x, rfl, O, no, ha, q⟩ := h
    refine ⟨_, pss_one (ps_ost (pv 0) (pv 1)), ?_⟩
    refine ⟨x, rfl, .ref a, rfl, a, C, rfl, O, no, .inl ⟨ha, fun d nd ne => ?_⟩⟩
    exact q d _ nd ne (fun b o hb h => by rw [upd_ne hb, upd_ne (ne_of_none h nd)]; exact h) upd_same (by rw [upd_ne ne, upd_same])
theorem sc_BadWord : FnScope ["self", "part"] ["self", "part"] (defScope (inClass (topS 7) 0)) := ⟨rfl, rfl, rfl, by decide +kernel, rfl, by decide +kernel, by decide +kernel⟩
theorem ok_BadWord {f : Addr} {fd : FuncData} {k : Nat} (F : Fun K "__init__" "BadWord.__init__" (inClass (topS 7) 0) f fd) : FnOk P w K mg base CX0 (k + 1) f fd ["self", "part"] (spI1 K "part") := by
  refine F.ok sc_BadWord (fun vs H Q E h => ?_) (fun cdv A outer s H vs Q E hr h => ?_)
  · obtain ⟨a, C, x, rfl, _⟩ := h
    rfl
  · obtain ⟨a, C, x, rfl, O, no, ha, q⟩ := h
    refine ⟨_, pss_one (ps_ost (pv 0) (pv 1)), ?_⟩
    refine ⟨x, rfl, .ref a, rfl, a, C, rfl, O, no, .inl ⟨ha, fun d nd ne => ?_⟩⟩
    exact q d _ nd ne (fun b o hb h => by rw [upd_ne hb, upd_ne (ne_of_none h nd)]; exact h) upd_same (by rw [upd_ne ne, upd_same])
theorem sc_BadSize : FnScope ["self", "part"] ["self", "part"] (defScope (inClass (topS 8) 0)) := ⟨rfl, rfl, rfl, by decide +kernel, rfl, by decide +kernel, by decide +kernel⟩
theorem ok_BadSize {f : Addr} {fd : FuncData} {k : Nat} (F : Fun K "__init__" "BadSize.__init__" (inClass (topS 8) 0) f fd) : FnOk P w K mg base CX0 (k + 1) f fd ["self", "part"] (spI1 K "part") := by
  refine F.ok sc_BadSize (fun vs H Q E h => ?_) (fun cdv A outer s H vs Q E hr h => ?_)
  · obtain ⟨a, C, x, rfl, _⟩ := h
    rfl
  · obtain ⟨a, C, x, rfl, O, no, ha, q⟩ := h
    refine ⟨_, pss_one (ps_ost (pv 0) (pv 1)), ?_⟩
    refine ⟨x, rfl, .ref a, rfl, a, C, rfl, O, no, .inl ⟨ha, fun d nd ne => ?_⟩⟩
    exact q d _ nd ne (fun b o hb h => by rw [upd_ne hb, upd_ne (ne_of_none h nd)]; exact h) upd_same (by rw [upd_ne ne, upd_same])
theorem sc_BadLimit : FnScope ["self", "part"] ["self", "part"] (defScope (inClass (topS 9) 0)) := ⟨rfl, rfl, rfl, by decide +kernel, rfl, by decide +kernel, by decide +kernel⟩
theorem ok_BadLimit {f : Addr} {fd : FuncData} {k : Nat} (F : Fun K "__init__" "BadLimit.__init__" (inClass (topS 9) 0) f fd) : FnOk P w K mg base CX0 (k + 1) f fd ["self", "part"] (spI1 K "part") := by
  refine F.ok sc_BadLimit (fun vs H Q E h => ?_) (fun cdv A outer s H vs Q E hr h => ?_)
  · obtain ⟨a, C, x, rfl, _⟩ := h
    rfl
  · obtain ⟨a, C, x, rfl, O, no, ha, q⟩ := h
    refine ⟨_, pss_one (ps_ost (pv 0) (pv 1)), ?_⟩
    refine ⟨x, rfl, .ref a, rfl, a, C, rfl, O, no, .inl ⟨ha, fun d nd ne => ?_⟩⟩
    exact q d _ nd ne (fun b o hb h => by rw [upd_ne hb, upd_ne (ne_of_none h nd)]; exact h) upd_same (by rw [upd_ne ne, upd_same])
theorem sc_BadFilm : FnScope ["self", "part"] ["self", "part"] (defScope (inClass (topS 10) 0)) := ⟨rfl, rfl, rfl, by decide +kernel, rfl, by decide +kernel, by decide +kernel⟩
theorem ok_BadFilm {f : Addr} {fd : FuncData} {k : Nat} (F : Fun K "__init__" "BadFilm.__init__" (inClass (topS 10) 0) f fd) : FnOk P w K mg base CX0 (k + 1) f fd ["self", "part"] (spI1 K "part") := by
  refine F.ok sc_BadFilm (fun vs H Q E h => ?_) (fun cdv A outer s H vs Q E hr h => ?_)
  · obtain ⟨a, C, x, rfl, _⟩ := h
    rfl
  · obtain ⟨a, C, x, rfl, O, no, ha, q⟩ := h
    refine ⟨_, pss_one (ps_ost (pv 0) (pv 1)), ?_⟩
    refine ⟨x, rfl, .ref a, rfl, a, C, rfl, O, no, .inl ⟨ha, fun d nd ne => ?_⟩⟩
    exact q d _ nd ne (fun b o hb h => by rw [upd_ne hb, upd_ne (ne_of_none h nd)]; exact h) upd_same (by rw [upd_ne ne, upd_same])
theorem sc_BadNumber : FnScope ["self", "part"] ["self", "part"] (defScope (inClass (topS 11) 0)) := ⟨rfl, rfl, rfl, by decide +kernel, rfl, by decide +kernel, by decide +kernel⟩
theorem ok_BadNumber {f : Addr} {fd : FuncData} {k : Nat} (F : Fun K "__init__" "BadNumber.__init__" (inClass (topS 11) 0) f fd) : FnOk P w K mg base CX0 (k + 1) f fd ["self", "part"] (spI1 K "part") := by
  refine F.ok sc_BadNumber (fun vs H Q E h => ?_) (fun cdv A outer s H vs Q E hr h => ?_)
  · obtain ⟨a, C, x, rfl, _⟩ := h
    rfl
  · obtain ⟨a, C, x, rfl, O, no, ha, q⟩ := h
    refine ⟨_, pss_one (ps_ost (pv 0) (pv 1)), ?_⟩
    refine ⟨x, rfl, .ref a, rfl, a, C, rfl, O, no, .inl ⟨ha, fun d nd ne => ?_⟩⟩
    exact q d _ nd ne (fun b o hb h => by rw [upd_ne hb, upd_ne (ne_of_none h nd)]; exact h) upd_same (by rw [upd_ne ne, upd_same])
theorem sc_BadPaper : FnScope ["self", "part"] ["self", "part"] (defScope (inClass (topS 12) 0)) := ⟨rfl, rfl, rfl, by decide +kernel, rfl, by decide +kernel, by decide +kernel⟩
theorem ok_BadPaper {f : Addr} {fd : FuncData} {k : Nat} (F : Fun K "__init__" "BadPaper.__init__" (inClass (topS 12) 0) f fd) : FnOk P w K mg base CX0 (k + 1) f fd ["self", "part"] (spI1 K "part") := by
  refine F.ok sc_BadPaper (fun vs H Q E h => ?_) (fun cdv A outer s H vs Q E hr h => ?_)
  · obtain ⟨a, C, x, rfl, _⟩ := h
    rfl
  · obtain ⟨a, C, x, rfl, O, no, ha, q⟩ := h
    refine ⟨_, pss_one (ps_ost (pv 0) (pv 1)), ?_⟩
    refine ⟨x, rfl, .ref a, rfl, a, C, rfl, O, no, .inl ⟨ha, fun d nd ne => ?_⟩⟩
    exact q d _ nd ne (fun b o hb h => by rw [upd_ne hb, upd_ne (ne_of_none h nd)]; exact h) upd_same (by rw [upd_ne ne, upd_same])
theorem sc_BadDesk : FnScope ["self", "part"] ["self", "part"] (defScope (inClass (topS 13) 0)) := ⟨rfl, rfl, rfl, by decide +kernel, rfl, by decide +kernel, by decide +kernel⟩
theorem ok_BadDesk {f : Addr} {fd : FuncData} {k : Nat} (F : Fun K "__init__" "BadDesk.__init__" (inClass (topS 13) 0) f fd) : FnOk P w K mg base CX0 (k + 1) f fd ["self", "part"] (spI1 K "part") := by
  refine F.ok sc_BadDesk (fun vs H Q E h => ?_) (fun cdv A outer s H vs Q E hr h => ?_)
  · obtain ⟨a, C, x, rfl, _⟩ := h
    rfl
  · obtain ⟨a, C, x, rfl, O, no, ha, q⟩ := h
    refine ⟨_, pss_one (ps_ost (pv 0) (pv 1)), ?_⟩
    refine ⟨x, rfl, .ref a, rfl, a, C, rfl, O, no, .inl ⟨ha, fun d nd ne => ?_⟩⟩
    exact q d _ nd ne (fun b o hb h => by rw [upd_ne hb, upd_ne (ne_of_none h nd)]; exact h) upd_same (by rw [upd_ne ne, upd_same])
theorem sc_Misfit : FnScope ["self", "part"] ["self", "part"] (defScope (inClass (topS 14) 0)) := ⟨rfl, rfl, rfl, by decide +kernel, rfl, by decide +kernel, by decide +kernel⟩
theorem ok_Misfit {f : Addr} {fd : FuncData} {k : Nat} (F : Fun K "__init__" "Misfit.__init__" (inClass (topS 14) 0) f fd) : FnOk P w K mg base CX0 (k + 1) f fd ["self", "part"] (spI1 K "part") := by
  refine F.ok sc_Misfit (fun vs H Q E h => ?_) (fun cdv A outer s H vs Q E hr h => ?_)
  · obtain ⟨a, C, x, rfl, _⟩ := h
    rfl
  · obtain ⟨a, C, x, rfl, O, no, ha, q⟩ := h
    refine ⟨_, pss_one (ps_ost (pv 0) (pv 1)), ?_⟩
    refine ⟨x, rfl, .ref a, rfl, a, C, rfl, O, no, .inl ⟨ha, fun d nd ne => ?_⟩⟩
    exact q d _ nd ne (fun b o hb h => by rw [upd_ne hb, upd_ne (ne_of_none h nd)]; exact h) upd_same (by rw [upd_ne ne, upd_same])
theorem sc_Missing : FnScope ["self", "value"] ["self", "value"] (defScope (inClass (topS 15) 0)) := ⟨rfl, rfl, rfl, by decide +kernel, rfl, by decide +kernel, by decide +kernel⟩
theorem ok_Missing {f : Addr} {fd : FuncData} {k : Nat} (F : Fun K "__init__" "Missing.__init__" (inClass (topS 15) 0) f fd) : FnOk P w K mg base CX0 (k + 1) f fd ["self", "value"] (spI1 K "value") := by
  refine F.ok sc_Missing (fun vs H Q E h => ?_) (fun cdv A outer s H vs Q E hr h => ?_)
  · obtain ⟨a, C, x, rfl, _⟩ := h
    rfl
  · obtain ⟨a, C, x, rfl, O, no, ha, q⟩ := h
    refine ⟨_, pss_one (ps_ost (pv 0) (pv 1)), ?_⟩
    refine ⟨x, rfl, .ref a, rfl, a, C, rfl, O, no, .inl ⟨ha, fun d nd ne => ?_⟩⟩
    exact q d _ nd ne (fun b o hb h => by rw [upd_ne hb, upd_ne (ne_of_none h nd)]; exact h) upd_same (by rw [upd_ne ne, upd_same])
theorem sc_Twice : FnScope ["self", "value"] ["self", "value"] (defScope (inClass (topS 19) 0)) := ⟨rfl, rfl, rfl, by decide +kernel, rfl, by decide +kernel, by decide +kernel⟩
theorem ok_Twice {f : Addr} {fd : FuncData} {k : Nat} (F : Fun K "__init__" "Twice.__init__" (inClass (topS 19) 0) f fd) : FnOk P w K mg base CX0 (k + 1) f fd ["self", "value"] (spI1 K "value") := by
  refine F.ok sc_Twice (fun vs H Q E h => ?_) (fun cdv A outer s H vs Q E hr h => ?_)
  · obtain ⟨a, C, x, rfl, _⟩ := h
    rfl
  · obtain ⟨a, C, x, rfl, O, no, ha, q⟩ := h
    refine ⟨_, pss_one (ps_ost (pv 0) (pv 1)), ?_⟩
    refine ⟨x, rfl, .ref a, rfl, a, C, rfl, O, no, .inl ⟨ha, fun d nd ne => ?_⟩⟩
    exact q d _ nd ne (fun b o hb h => by rw [upd_ne hb, upd_ne (ne_of_none h nd)]; exact h) upd_same (by rw [upd_ne ne, upd_same])
theorem sc_Impossible : FnScope ["self", "paper"] ["self", "paper"] (defScope (inClass (topS 20) 0)) := ⟨rfl, rfl, rfl, by decide +kernel, rfl, by decide +kernel, by decide +kernel⟩
theorem ok_Impossible {f : Addr} {fd : FuncData} {k : Nat} (F : Fun K "__init__" "Impossible.__init__" (inClass (topS 20) 0) f fd) : FnOk P w K mg base CX0 (k + 1) f fd ["self", "paper"] (spI1 K "paper") := by
  refine F.ok sc_Impossible (fun vs H Q E h => ?_) (fun cdv A outer s H vs Q E hr h => ?_)
  · obtain ⟨a, C, x, rfl, _⟩ := h
    rfl
  · obtain ⟨a, C, x, rfl, O, no, ha, q⟩ := h
    refine ⟨_, pss_one (ps_ost (pv 0) (pv 1)), ?_⟩
    refine ⟨x, rfl, .ref a, rfl, a, C, rfl, O, no, .inl ⟨ha, fun d nd ne => ?_⟩⟩
    exact q d _ nd ne (fun b o hb h => by rw [upd_ne hb, upd_ne (ne_of_none h nd)]; exact h) upd_same (by rw [upd_ne ne, upd_same])
theorem sc_TooMany : FnScope ["self", "what", "most"] ["self", "what", "most"] (defScope (inClass (topS 21) 0)) := ⟨rfl, rfl, rfl, by decide +kernel, rfl, by decide +kernel, by decide +kernel⟩
theorem ok_TooMany {f : Addr} {fd : FuncData} {k : Nat} (F : Fun K "__init__" "TooMany.__init__" (inClass (topS 21) 0) f fd) : FnOk P w K mg base CX0 (k + 1) f fd ["self", "what", "most"] (spI2 K "what" "most") := by
  refine F.ok sc_TooMany (fun vs H Q E h => ?_) (fun cdv A outer s H vs Q E hr h => ?_)
  · obtain ⟨a, C, x, y, rfl, _⟩ := h
    rfl
  · obtain ⟨a, C, x, y, rfl, O, no, no', ha, q⟩ := h
    refine ⟨_, pss_cons (ps_ost (pv 0) (pv 1)) (pss_one (ps_ost (pv 0) (pv 2))), ?_⟩
    refine ⟨x, rfl, .ref a, rfl, a, C, rfl, O, no, .inl ⟨ha, fun d nd ne => ?_⟩⟩
    refine ⟨y, rfl, .ref a, rfl, a, C, rfl, O, no', .inr ⟨d, _, upd_same, (by rw [upd_ne ne, upd_same]), (by show 1 ≤ 900; decide), ?_⟩⟩
    exact q d _ nd ne (fun b o hb h => by rw [upd_ne (ne_of_none h nd), upd_ne hb, upd_ne (ne_of_none h nd)]; exact h) (by rw [upd_ne ne.symm, upd_same]) upd_same
theorem sc_BadText : FnScope ["self", "line", "item"] ["self", "line", "item"] (defScope (inClass (topS 23) 0)) := ⟨rfl, rfl, rfl, by decide +kernel, rfl, by decide +kernel, by decide +kernel⟩
theorem ok_BadText {f : Addr} {fd : FuncData} {k : Nat} (F : Fun K "__init__" "BadText.__init__" (inClass (topS 23) 0) f fd) : FnOk P w K mg base CX0 (k + 1) f fd ["self", "line", "item"] (spI2 K "line" "item") := by
  refine F.ok sc_BadText (fun vs H Q E h => ?_) (fun cdv A outer s H vs Q E hr h => ?_)
  · obtain ⟨a, C, x, y, rfl, _⟩ := h
    rfl
  · obtain ⟨a, C, x, y, rfl, O, no, no', ha, q⟩ := h
    refine ⟨_, pss_cons (ps_ost (pv 0) (pv 1)) (pss_one (ps_ost (pv 0) (pv 2))), ?_⟩
    refine ⟨x, rfl, .ref a, rfl, a, C, rfl, O, no, .inl ⟨ha, fun d nd ne => ?_⟩⟩
    refine ⟨y, rfl, .ref a, rfl, a, C, rfl, O, no', .inr ⟨d, _, upd_same, (by rw [upd_ne ne, upd_same]), (by show 1 ≤ 900; decide), ?_⟩⟩
    exact q d _ nd ne (fun b o hb h => by rw [upd_ne (ne_of_none h nd), upd_ne hb, upd_ne (ne_of_none h nd)]; exact h) (by rw [upd_ne ne.symm, upd_same]) upd_same
theorem sc_BadLine : FnScope ["self", "line", "error"] ["self", "line", "error"] (defScope (inClass (topS 24) 0)) := ⟨rfl, rfl, rfl, by decide +kernel, rfl, by decide +kernel, by decide +kernel⟩
theorem ok_BadLine {f : Addr} {fd : FuncData} {k : Nat} (F : Fun K "__init__" "BadLine.__init__" (inClass (topS 24) 0) f fd) : FnOk P w K mg base CX0 (k + 1) f fd ["self", "line", "error"] (spI2 K "line" "error") := by
  refine F.ok sc_BadLine (fun vs H Q E h => ?_) (fun cdv A outer s H vs Q E hr h => ?_)
  · obtain ⟨a, C, x, y, rfl, _⟩ := h
    rfl
  · obtain ⟨a, C, x, y, rfl, O, no, no', ha, q⟩ := h
    refine ⟨_, pss_cons (ps_ost (pv 0) (pv 1)) (pss_one (ps_ost (pv 0) (pv 2))), ?_⟩
    refine ⟨x, rfl, .ref a, rfl, a, C, rfl, O, no, .inl ⟨ha, fun d nd ne => ?_⟩⟩
    refine ⟨y, rfl, .ref a, rfl, a, C, rfl, O, no', .inr ⟨d, _, upd_same, (by rw [upd_ne ne, upd_same]), (by show 1 ≤ 900; decide), ?_⟩⟩
    exact q d _ nd ne (fun b o hb h => by rw [upd_ne (ne_of_none h nd), upd_ne hb, upd_ne (ne_of_none h nd)]; exact h) (by rw [upd_ne ne.symm, upd_same]) upd_same
end
/-- all classes as the law uses them -/
structure Mks (P : Program) (w : World) (K : PySem.W.Frag) (mg : Str → Option Value) (base : Heap) (cls : Nat → Addr) : Prop where
  c0 : E1 P w K mg base "BadRegion" "part" (cls 0)
  c1 : E1 P w K mg base "BadWorld" "part" (cls 1)
  c2 : E1 P w K mg base "BadSaying" "part" (cls 2)
  c3 : E1 P w K mg base "BadBook" "part" (cls 3)
  c4 : E1 P w K mg base "BadMap" "part" (cls 4)
  c5 : E1 P w K mg base "BadWord" "part" (cls 5)
  c6 : E1 P w K mg base "BadSize" "part" (cls 6)
  c7 : E1 P w K mg base "BadLimit" "part" (cls 7)
  c8 : E1 P w K mg base "BadFilm" "part" (cls 8)
  c9 : E1 P w K mg base "BadNumber" "part" (cls 9)
  c10 : E1 P w K mg base "BadPaper" "part" (cls 10)
  c11 : E1 P w K mg base "BadDesk" "part" (cls 11)
  c12 : E1 P w K mg base "Misfit" "part" (cls 12)
  c13 : E1 P w K mg base "NoLand" "value" (cls 13)
  c14 : E1 P w K mg base "NoSaying" "value" (cls 14)
  c15 : E1 P w K mg base "NoName" "value" (cls 15)
  c16 : E1 P w K mg base "Missing" "value" (cls 16)
  c17 : E1 P w K mg base "Twice" "value" (cls 17)
  c18 : E1 P w K mg base "Impossible" "paper" (cls 18)
  c19 : E2 P w K mg base "TooMany" "what" "most" (cls 19)
  c21 : E2 P w K mg base "BadText" "line" "item" (cls 21)
  c22 : E2 P w K mg base "BadLine" "line" "error" (cls 22)
  g20 : mg "Nothing" = some (.ref (cls 20))
  x20 : PySem.W.excIn K (cls 20) [.type "ValueError", .type "Exception", .type "BaseException", .type "object"] "ValueError.__new__" = true
  k20 : PySem.W.keepIn K (.ref (cls 20)) = true
  ne13 : ExcNe K (cls 13)
abbrev sParts : Stmt := topS 29
abbrev sNamed : Stmt := topS 30
abbrev sValues : Stmt := topS 31
section
variable {P : Program} {w : World} {K : PySem.W.Frag} {mg : Str → Option Value} {base : Heap} {cls : Nat → Addr} {CW : Addr}
def parts (cls : Nat → Addr) (x : V) : List (V → Hp → Prop) := [ErrV (cls 0) [("part", x)], ErrV (cls 1) [("part", x)], ErrV (cls 2) [("part", x)], ErrV (cls 3) [("part", x)], ErrV (cls 4) [("part", x)], ErrV (cls 5) [("part", x)], ErrV (cls 6) [("part", x)], ErrV (cls 7) [("part", x)], ErrV (cls 8) [("part", x)], ErrV (cls 9) [("part", x)], ErrV (cls 10) [("part", x)], ErrV (cls 11) [("part", x)], ErrV (cls 12) [("part", x)]]
def vals5 (cls : Nat → Addr) (x : V) : List (V → Hp → Prop) := [ErrV (cls 13) [("value", x)], ErrV (cls 14) [("value", x)], ErrV (cls 15) [("value", x)], ErrV (cls 16) [("value", x)], ErrV (cls 17) [("value", x)]]
theorem mon_list {cls : Nat → Addr} {x : V} {f : Str} {is : List Nat} : ∀ P ∈ is.map (fun i => ErrV (cls i) [(f, x)]), Mon P := fun P h => by
  obtain ⟨i, _, rfl⟩ := List.mem_map.mp h
  exact mon_err
theorem mon_parts {x : V} : ∀ P ∈ parts cls x, Mon P := mon_list (is := [0, 1, 2, 3, 4, 5, 6, 7, 8, 9, 10, 11, 12])
theorem mon_vals5 {x : V} : ∀ P ∈ vals5 cls x, Mon P := mon_list (is := [13, 14, 15, 16, 17])
theorem scPt : FnScope ["_law_one", "_law_made"] ["_law_one"] (defScope sParts) := ⟨rfl, rfl, rfl, by decide +kernel, rfl, by decide +kernel, by decide +kernel⟩
theorem scNm : FnScope ["_law_one", "_law_made"] ["_law_one"] (defScope sNamed) := ⟨rfl, rfl, rfl, by decide +kernel, rfl, by decide +kernel, by decide +kernel⟩
theorem scVl : FnScope ["_law_one", "_law_is_named"] ["_law_one", "_law_is_named"] (defScope sValues) := ⟨rfl, rfl, rfl, by decide +kernel, rfl, by decide +kernel, by decide +kernel⟩
def RetP (P : V → Hp → Prop) (H : Hp) (Q : VK) : Prop := ∀ v H2, Evl.Ex H H2 → P v H2 → Q v H2
def spParts (cls : Nat → Addr) : Sp := fun vs H Q _ => ∃ x : V, vs = [x] ∧ RetP (LstOf (parts cls x)) H Q
def spValues (cls : Nat → Addr) : Sp := fun vs H Q _ => ∃ (x : V) (b : Bool), vs = [x, .bl b] ∧ RetP (LstOf (vals5 cls x)) H Q
theorem ok_parts {f : Addr} {fd : FuncData} {k : Nat} (M : Mks P w K mg base cls) (F : Fun K "_law_with_parts" "_law_with_parts" sParts f fd) : FnOk P w K mg base CX0 (k + 3) f fd ["_law_one"] (spParts cls) := by
  refine F.ok scPt (fun vs H Q E h => ?_) (fun cdv A outer s H vs Q E hr h => ?_)
  · obtain ⟨x, rfl, _⟩ := h
    rfl
  · obtain ⟨x, rfl, q⟩ := h
    have nd := scPt.nd
    have hr2 : Room 2 _ := hr.mono (by omega)
    refine ⟨_, pss_cons (ps_set (i := 1) nd rfl (.inl rfl) (pe_lst (pa_cons (pe_e1 M.c0 hr2 (pv 0)) (pa_cons (pe_e1 M.c1 hr2 (pv 0)) (pa_cons (pe_e1 M.c2 hr2 (pv 0)) (pa_cons (pe_e1 M.c3 hr2 (pv 0)) (pa_cons (pe_e1 M.c4 hr2 (pv 0)) (pa_cons (pe_e1 M.c5 hr2 (pv 0)) (pa_cons (pe_e1 M.c6 hr2 (pv 0)) pa_nil)))))))))
      (pss_one (ps_ret (pe_op op_cat (pv 1) (pe_lst (pa_cons (pe_e1 M.c7 hr2 (pv 0)) (pa_cons (pe_e1 M.c8 hr2 (pv 0)) (pa_cons (pe_e1 M.c9 hr2 (pv 0)) (pa_cons (pe_e1 M.c10 hr2 (pv 0)) (pa_cons (pe_e1 M.c11 hr2 (pv 0)) (pa_cons (pe_e1 M.c12 hr2 (pv 0)) pa_nil)))))))))), ?_⟩
    refine q_asgP (P := LstOf [ErrV (cls 0) [("part", x)], ErrV (cls 1) [("part", x)], ErrV (cls 2) [("part", x)], ErrV (cls 3) [("part", x)], ErrV (cls 4) [("part", x)], ErrV (cls 5) [("part", x)], ErrV (cls 6) [("part", x)]]) (evp_lst (mon_list (is := [0, 1, 2, 3, 4, 5, 6])) (eap_cons mon_err (evp_mk1 M.c0.O M.c0.no (Evl.ev_var rfl)) (eap_cons mon_err (evp_mk1 M.c1.O M.c1.no (Evl.ev_var rfl)) (eap_cons mon_err (evp_mk1 M.c2.O M.c2.no (Evl.ev_var rfl)) (eap_cons mon_err (evp_mk1 M.c3.O M.c3.no (Evl.ev_var rfl)) (eap_cons mon_err (evp_mk1 M.c4.O M.c4.no (Evl.ev_var rfl)) (eap_cons mon_err (evp_mk1 M.c5.O M.c5.no (Evl.ev_var rfl)) (eap_cons mon_err (evp_mk1 M.c6.O M.c6.no (Evl.ev_var rfl)) eap_nilA))))))) (by show 7 ≤ 100000; decide)) fun v0 H0 e0 h0 => ?_
    exact s_retP (P := LstOf [ErrV (cls 0) [("part", x)], ErrV (cls 1) [("part", x)], ErrV (cls 2) [("part", x)], ErrV (cls 3) [("part", x)], ErrV (cls 4) [("part", x)], ErrV (cls 5) [("part", x)], ErrV (cls 6) [("part", x)], ErrV (cls 7) [("part", x)], ErrV (cls 8) [("part", x)], ErrV (cls 9) [("part", x)], ErrV (cls 10) [("part", x)], ErrV (cls 11) [("part", x)], ErrV (cls 12) [("part", x)]]) (evp_cat (Ps := [ErrV (cls 0) [("part", x)], ErrV (cls 1) [("part", x)], ErrV (cls 2) [("part", x)], ErrV (cls 3) [("part", x)], ErrV (cls 4) [("part", x)], ErrV (cls 5) [("part", x)], ErrV (cls 6) [("part", x)]]) (Ps' := [ErrV (cls 7) [("part", x)], ErrV (cls 8) [("part", x)], ErrV (cls 9) [("part", x)], ErrV (cls 10) [("part", x)], ErrV (cls 11) [("part", x)], ErrV (cls 12) [("part", x)]]) (mon_list (is := [0, 1, 2, 3, 4, 5, 6])) (mon_list (is := [7, 8, 9, 10, 11, 12])) (evp_var (mon_lst (mon_list (is := [0, 1, 2, 3, 4, 5, 6]))) rfl h0) (evp_lst (mon_list (is := [7, 8, 9, 10, 11, 12])) (eap_cons mon_err (evp_mk1 M.c7.O M.c7.no (Evl.ev_var rfl)) (eap_cons mon_err (evp_mk1 M.c8.O M.c8.no (Evl.ev_var rfl)) (eap_cons mon_err (evp_mk1 M.c9.O M.c9.no (Evl.ev_var rfl)) (eap_cons mon_err (evp_mk1 M.c10.O M.c10.no (Evl.ev_var rfl)) (eap_cons mon_err (evp_mk1 M.c11.O M.c11.no (Evl.ev_var rfl)) (eap_cons mon_err (evp_mk1 M.c12.O M.c12.no (Evl.ev_var rfl)) eap_nilA)))))) (by show 6 ≤ 100000; decide)) (by show 7 + 6 ≤ 100000; decide)) fun v9 H9 e9 h9 => q v9 H9 (e0.trans e9) h9
theorem ok_named {f : Addr} {fd : FuncData} {k : Nat} (M : Mks P w K mg base cls) (F : Fun K "_law_with_named_parts" "_law_with_named_parts" sNamed f fd) : FnOk P w K mg base CX0 (k + 3) f fd ["_law_one"] (spParts cls) := by
  refine F.ok scNm (fun vs H Q E h => ?_) (fun cdv A outer s H vs Q E hr h => ?_)
  · obtain ⟨x, rfl, _⟩ := h
    rfl
  · obtain ⟨x, rfl, q⟩ := h
    have nd := scNm.nd
    have hr2 : Room 2 _ := hr.mono (by omega)
    refine ⟨_, pss_cons (ps_set (i := 1) nd rfl (.inl rfl) (pe_lst (pa_cons (pe_e1k M.c0 hr2 (pv 0)) (pa_cons (pe_e1k M.c1 hr2 (pv 0)) (pa_cons (pe_e1k M.c2 hr2 (pv 0)) (pa_cons (pe_e1k M.c3 hr2 (pv 0)) (pa_cons (pe_e1k M.c4 hr2 (pv 0)) (pa_cons (pe_e1k M.c5 hr2 (pv 0)) pa_nil))))))))
      (pss_cons (ps_set (i := 1) nd rfl (.inl rfl) (pe_op op_cat (pv 1) (pe_lst (pa_cons (pe_e1k M.c6 hr2 (pv 0)) (pa_cons (pe_e1k M.c7 hr2 (pv 0)) (pa_cons (pe_e1k M.c8 hr2 (pv 0)) (pa_cons (pe_e1k M.c9 hr2 (pv 0)) (pa_cons (pe_e1k M.c10 hr2 (pv 0)) pa_nil))))))))
      (pss_one (ps_ret (pe_op op_cat (pv 1) (pe_lst (pa_cons (pe_e1k M.c11 hr2 (pv 0)) (pa_cons (pe_e1k M.c12 hr2 (pv 0)) pa_nil))))))), ?_⟩
    refine q_asgP (P := LstOf [ErrV (cls 0) [("part", x)], ErrV (cls 1) [("part", x)], ErrV (cls 2) [("part", x)], ErrV (cls 3) [("part", x)], ErrV (cls 4) [("part", x)], ErrV (cls 5) [("part", x)]]) (evp_lst (mon_list (is := [0, 1, 2, 3, 4, 5])) (eap_cons mon_err (evp_mk1k M.c0.O M.c0.no (Evl.ev_var rfl)) (eap_cons mon_err (evp_mk1k M.c1.O M.c1.no (Evl.ev_var rfl)) (eap_cons mon_err (evp_mk1k M.c2.O M.c2.no (Evl.ev_var rfl)) (eap_cons mon_err (evp_mk1k M.c3.O M.c3.no (Evl.ev_var rfl)) (eap_cons mon_err (evp_mk1k M.c4.O M.c4.no (Evl.ev_var rfl)) (eap_cons mon_err (evp_mk1k M.c5.O M.c5.no (Evl.ev_var rfl)) eap_nilA)))))) (by show 6 ≤ 100000; decide)) fun v0 H0 e0 h0 => ?_
    refine q_asgP (P := LstOf [ErrV (cls 0) [("part", x)], ErrV (cls 1) [("part", x)], ErrV (cls 2) [("part", x)], ErrV (cls 3) [("part", x)], ErrV (cls 4) [("part", x)], ErrV (cls 5) [("part", x)], ErrV (cls 6) [("part", x)], ErrV (cls 7) [("part", x)], ErrV (cls 8) [("part", x)], ErrV (cls 9) [("part", x)], ErrV (cls 10) [("part", x)]]) (evp_cat (Ps := [ErrV (cls 0) [("part", x)], ErrV (cls 1) [("part", x)], ErrV (cls 2) [("part", x)], ErrV (cls 3) [("part", x)], ErrV (cls 4) [("part", x)], ErrV (cls 5) [("part", x)]]) (Ps' := [ErrV (cls 6) [("part", x)], ErrV (cls 7) [("part", x)], ErrV (cls 8) [("part", x)], ErrV (cls 9) [("part", x)], ErrV (cls 10) [("part", x)]]) (mon_list (is := [0, 1, 2, 3, 4, 5])) (mon_list (is := [6, 7, 8, 9, 10])) (evp_var (mon_lst (mon_list (is := [0, 1, 2, 3, 4, 5]))) rfl h0) (evp_lst (mon_list (is := [6, 7, 8, 9, 10])) (eap_cons mon_err (evp_mk1k M.c6.O M.c6.no (Evl.ev_var rfl)) (eap_cons mon_err (evp_mk1k M.c7.O M.c7.no (Evl.ev_var rfl)) (eap_cons mon_err (evp_mk1k M.c8.O M.c8.no (Evl.ev_var rfl)) (eap_cons mon_err (evp_mk1k M.c9.O M.c9.no (Evl.ev_var rfl)) (eap_cons mon_err (evp_mk1k M.c10.O M.c10.no (Evl.ev_var rfl)) eap_nilA))))) (by show 5 ≤ 100000; decide)) (by show 6 + 5 ≤ 100000; decide)) fun v1 H1 e1 h1 => ?_
    exact s_retP (P := LstOf [ErrV (cls 0) [("part", x)], ErrV (cls 1) [("part", x)], ErrV (cls 2) [("part", x)], ErrV (cls 3) [("part", x)], ErrV (cls 4) [("part", x)], ErrV (cls 5) [("part", x)], ErrV (cls 6) [("part", x)], ErrV (cls 7) [("part", x)], ErrV (cls 8) [("part", x)], ErrV (cls 9) [("part", x)], ErrV (cls 10) [("part", x)], ErrV (cls 11) [("part", x)], ErrV (cls 12) [("part", x)]]) (evp_cat (Ps := [ErrV (cls 0) [("part", x)], ErrV (cls 1) [("part", x)], ErrV (cls 2) [("part", x)], ErrV (cls 3) [("part", x)], ErrV (cls 4) [("part", x)], ErrV (cls 5) [("part", x)], ErrV (cls 6) [("part", x)], ErrV (cls 7) [("part", x)], ErrV (cls 8) [("part", x)], ErrV (cls 9) [("part", x)], ErrV (cls 10) [("part", x)]]) (Ps' := [ErrV (cls 11) [("part", x)], ErrV (cls 12) [("part", x)]]) (mon_list (is := [0, 1, 2, 3, 4, 5, 6, 7, 8, 9, 10])) (mon_list (is := [11, 12])) (evp_var (mon_lst (mon_list (is := [0, 1, 2, 3, 4, 5, 6, 7, 8, 9, 10]))) rfl h1) (evp_lst (mon_list (is := [11, 12])) (eap_cons mon_err (evp_mk1k M.c11.O M.c11.no (Evl.ev_var rfl)) (eap_cons mon_err (evp_mk1k M.c12.O M.c12.no (Evl.ev_var rfl)) eap_nilA)) (by show 2 ≤ 100000; decide)) (by show 11 + 2 ≤ 100000; decide)) fun v9 H9 e9 h9 => q v9 H9 ((e0.trans e1).trans e9) h9
theorem ok_values {f : Addr} {fd : FuncData} {k : Nat} (M : Mks P w K mg base cls) (F : Fun K "_law_with_values" "_law_with_values" sValues f fd) : FnOk P w K mg base CX0 (k + 3) f fd ["_law_one", "_law_is_named"] (spValues cls) := by
  refine F.ok scVl (fun vs H Q E h => ?_) (fun cdv A outer s H vs Q E hr h => ?_)
  · obtain ⟨x, b, rfl, _⟩ := h
    rfl
  · obtain ⟨x, b, rfl, q⟩ := h
    have nd := scVl.nd
    have hr2 : Room 2 _ := hr.mono (by omega)
    refine ⟨_, pss_cons (ps_if (pt_val (pv 1)) (pss_one (ps_ret (pe_lst (pa_cons (pe_e1k M.c13 hr2 (pv 0)) (pa_cons (pe_e1k M.c14 hr2 (pv 0)) (pa_cons (pe_e1k M.c15 hr2 (pv 0)) (pa_cons (pe_e1k M.c16 hr2 (pv 0)) (pa_cons (pe_e1k M.c17 hr2 (pv 0)) pa_nil)))))))) pss_nil) (pss_one (ps_ret (pe_lst (pa_cons (pe_e1 M.c13 hr2 (pv 0)) (pa_cons (pe_e1 M.c14 hr2 (pv 0)) (pa_cons (pe_e1 M.c15 hr2 (pv 0)) (pa_cons (pe_e1 M.c16 hr2 (pv 0)) (pa_cons (pe_e1 M.c17 hr2 (pv 0)) pa_nil)))))))), ?_⟩
    refine Evl.q_when (b := b) (Evl.et_B (Evl.ev_var rfl)) (fun _ H1 e1 => ?_) (fun _ H1 e1 => ?_)
    · exact s_retP (P := LstOf (vals5 cls x)) (evp_lst mon_vals5 (eap_cons mon_err (evp_mk1k M.c13.O M.c13.no (Evl.ev_var rfl)) (eap_cons mon_err (evp_mk1k M.c14.O M.c14.no (Evl.ev_var rfl)) (eap_cons mon_err (evp_mk1k M.c15.O M.c15.no (Evl.ev_var rfl)) (eap_cons mon_err (evp_mk1k M.c16.O M.c16.no (Evl.ev_var rfl)) (eap_cons mon_err (evp_mk1k M.c17.O M.c17.no (Evl.ev_var rfl)) eap_nilA))))) (by show 5 ≤ 100000; decide)) fun v9 H9 e9 h9 => q v9 H9 (e1.trans e9) h9
    · exact s_retP (P := LstOf (vals5 cls x)) (evp_lst mon_vals5 (eap_cons mon_err (evp_mk1 M.c13.O M.c13.no (Evl.ev_var rfl)) (eap_cons mon_err (evp_mk1 M.c14.O M.c14.no (Evl.ev_var rfl)) (eap_cons mon_err (evp_mk1 M.c15.O M.c15.no (Evl.ev_var rfl)) (eap_cons mon_err (evp_mk1 M.c16.O M.c16.no (Evl.ev_var rfl)) (eap_cons mon_err (evp_mk1 M.c17.O M.c17.no (Evl.ev_var rfl)) eap_nilA))))) (by show 5 ≤ 100000; decide)) fun v9 H9 e9 h9 => q v9 H9 (e1.trans e9) h9
end
end K00
namespace K00
open PySem PySem.Spec PyProof.Rows L2 BW
abbrev sSingle : Stmt := topS 34
abbrev sOthers : Stmt := topS 35
section
variable {P : Program} {w : World} {K : PySem.W.Frag} {mg : Str → Option Value} {base : Heap} {cls : Nat → Addr} {CW : Addr}
theorem scOt : FnScope ["_law_one", "_law_other", "_law_error"] ["_law_one", "_law_other"] (defScope sOthers) := ⟨rfl, rfl, rfl, by decide +kernel, rfl, by decide +kernel, by decide +kernel⟩
def spPair (K : PySem.W.Frag) : Sp := fun vs H Q _ => ∃ x y : V, vs = [x, y] ∧ SelfNe K H x ∧ SelfNe K H y ∧ Evl.RetV (.bl true) H Q
theorem sp_stands {i : Nat} {v : V} {H : Hp} (hi : i < 23) (hv : Err (cls i) v H) : Evl.SpV (spStands cls) ([v, .int (i : Int)] ++ []) H (.bl true) := fun H1 e Q q _ => ⟨i, v, rfl, hi, mon_errA _ _ _ e hv, q⟩
/-- e.f != x, of equals -/
theorem et_same {C : Addr} {f : Str} {fs : List (Str × V)} {te tx : TE} {σ : L2.St} {H : Hp} {x : V} (X : XfC K C) (no : PySem.W.findIn K (.ref C) f = some none) (h : Evp te σ H (ErrV C fs)) (hl : fs.lookup f = some x) (hx : Evl.Ev tx σ H x) (hs : SelfNe K H x) :
    Evl.EvT (tTest (tOp (rNeS K) (tXA K f te) tx)) σ H false := Evl.et_test (ev_neS (ev_xa X no h hl) hx hs)
theorem ok_others {f fS : Addr} {fd fdS : FuncData} (M : Mks P w K mg base cls) (F : Fun K "_law_others_right" "_law_others_right" sOthers f fd) (G : FnOk P w K mg base CX0 2 fS fdS ["_law_error", "_law_at"] (spStands cls)) (bS : Binds K fdS ["_law_error", "_law_at"] [])
    (gS : mg "_law_stands" = some (.ref fS)) (kS : PySem.W.keepIn K (.ref fS) = true) : FnOk P w K mg base CX0 4 f fd ["_law_one", "_law_other"] (spPair K) := by
  refine F.ok scOt (fun vs H Q E h => ?_) (fun cdv A outer s H vs Q E hr h => ?_)
  · obtain ⟨x, y, rfl, _⟩ := h
    rfl
  · obtain ⟨x, y, rfl, hx, hy, q⟩ := h
    have nd := scOt.nd
    have hr2 : Room 2 _ := hr.mono (by decide)
    have hu := hu_of hr
    refine ⟨_, pss_cons (ps_if (pt_cmpR (op_neD hr.units) (pe_lc (own := [("_law_error", 2)]) (g := gName 2) rfl nd (pi_tup (pe_tup (pa_cons (pe_e1 M.c18 hr2 (pv 0)) (pa_cons (pe_e1k M.c18 hr2 (pv 0)) pa_nil))))
          (blkOk_by (N := ["_law_one", "_law_other", "_law_error"]) (sc := defScope sOthers) (by decide +kernel)) (fun _ _ _ _ _ => pg_name (i := 2) nd rfl (Or.inl rfl))
          (fun _ _ _ _ _ => pts_one (PW.pt (pw_or (pt_cmpR (show OpR _ _ (rNeS K) from op_neS hu) (show PE _ _ (tXA K "paper" (tVar 2)) from pe_xa (pv 2)) (pv 0) (nomark _))
            (pw_or1 (pt_not (pt_val (pe_call G hr2 (by rfl) gS kS bS .nil pass0 (pa_cons (pv 2) (pa_cons pe_int pa_nil)))))))))
          (fun _ _ _ _ _ => pv 2)) (pe_lst pa_nil) (nomark _)) (pss_one (ps_ret pe_bl)) pss_nil)
      (pss_cons (ps_for PassesOwn.never rfl (pi_tup (pe_tup (pa_cons (pe_e2 M.c19 hr2 (pv 0) (pv 1)) (pa_cons (pe_e2k M.c19 hr2 (pv 1) (pv 0)) pa_nil)))) (pg_name (i := 2) nd rfl (.inl rfl))
        (pss_one (ps_if (PW.pt (pw_or (pt_cmpR (op_neS hu) (pe_xa (pv 2)) (pv 0) (nomark _)) (pw_or (pt_cmpR (op_neS hu) (pe_xa (pv 2)) (pv 1) (nomark _)) (pw_or1 (pt_not (pt_val (pe_call G hr2 (by rfl) gS kS bS .nil pass0 (pa_cons (pv 2) (pa_cons pe_int pa_nil))))))))) (pss_one (ps_ret pe_bl)) pss_nil)))
      (pss_cons (ps_for PassesOwn.never rfl (pi_tup (pe_tup (pa_cons (pe_e2 M.c21 hr2 (pv 0) (pv 1)) (pa_cons (pe_e2k M.c21 hr2 (pv 1) (pv 0)) pa_nil)))) (pg_name (i := 2) nd rfl (.inl rfl))
        (pss_one (ps_if (PW.pt (pw_or (pt_cmpR (op_neS hu) (pe_xa (pv 2)) (pv 0) (nomark _)) (pw_or (pt_cmpR (op_neS hu) (pe_xa (pv 2)) (pv 1) (nomark _)) (pw_or1 (pt_not (pt_val (pe_call G hr2 (by rfl) gS kS bS .nil pass0 (pa_cons (pv 2) (pa_cons pe_int pa_nil))))))))) (pss_one (ps_ret pe_bl)) pss_nil)))
      (pss_cons (ps_for PassesOwn.never rfl (pi_tup (pe_tup (pa_cons (pe_e2 M.c22 hr2 (pv 0) (pv 1)) (pa_cons (pe_e2k M.c22 hr2 (pv 1) (pv 0)) pa_nil)))) (pg_name (i := 2) nd rfl (.inl rfl))
        (pss_one (ps_if (PW.pt (pw_or (pt_cmpR (op_neS hu) (pe_xa (pv 2)) (pv 0) (nomark _)) (pw_or (pt_cmpR (op_neS hu) (pe_xa (pv 2)) (pv 1) (nomark _)) (pw_or1 (pt_not (pt_val (pe_call G hr2 (by rfl) gS kS bS .nil pass0 (pa_cons (pv 2) (pa_cons pe_int pa_nil))))))))) (pss_one (ps_ret pe_bl)) pss_nil)))
      (pss_one (ps_ret (pe_call G hr2 (by rfl) gS kS bS .nil pass0 (pa_cons (pe_exc0 PySem.F.excBase_ValueError M.x20 M.g20 M.k20 (by rfl)) (pa_cons pe_int pa_nil)))))))), ?_⟩
    -- the comprehension takes nothing
    refine Evl.q_when (b := false) (Evl.et_test (ev_neNil (el_lcT0 (Ps := [ErrV (cls 18) [("paper", x)], ErrV (cls 18) [("paper", x)]]) (mon_list (is := [18, 18]))
        (evp_tup (mon_list (is := [18, 18])) (eap_cons mon_err (evp_mk1 M.c18.O M.c18.no (Evl.ev_var rfl)) (eap_cons mon_err (evp_mk1k M.c18.O M.c18.no (Evl.ev_var rfl)) eap_nilA)) (by show 2 ≤ 100000; decide)) (fun _ => rfl) (fun i v P' H1 e1 hP hv => ?_))
        (Evl.el_lst Evl.ea_nil (Nat.zero_le _)))) (fun z => nomatch z) (fun _ H1 e1 => ?_)
    · have hv' : ErrV (cls 18) [("paper", x)] v H1 := by
        match i, hP with
        | 0, hP =>
          obtain rfl := Option.some.inj hP
          exact hv
        | 1, hP =>
          obtain rfl := Option.some.inj hP
          exact hv
        | _ + 2, hP => cases hP
      exact Evl.et_or (a := false) (b := false) (et_same M.c18.X M.c18.no (evp_var mon_err rfl hv') rfl (Evl.ev_var rfl) (hx.same e1))
        (fun _ => Evl.et_not (a := true) (Evl.et_B (Evl.ev_call (Evl.ea_cons (Evl.ev_var rfl) (Evl.ea_cons Evl.ev_c Evl.ea_nil)) (sp_stands (i := 18) (by decide) (.inl ⟨_, hv'⟩)))))
    have a1 : Evl.Ex H H1 := e1
    refine q_forTp (Ps := [ErrV (cls 19) [("most", y), ("what", x)], ErrV (cls 19) [("most", y), ("what", x)]]) (by
        intro P' h
        simp only [List.mem_cons, List.not_mem_nil, or_false, or_self] at h
        subst h
        exact mon_err) (evp_tup (by
        intro P' h
        simp only [List.mem_cons, List.not_mem_nil, or_false, or_self] at h
        subst h
        exact mon_err) (eap_cons mon_err (evp_mk2 M.c19.O M.c19.no M.c19.no1 (Evl.ev_var rfl) (Evl.ev_var rfl)) (eap_cons mon_err (evp_mk2k M.c19.O M.c19.no M.c19.no1 (Evl.ev_var rfl) (Evl.ev_var rfl)) eap_nilA)) (by show 2 ≤ 100000; decide))
      (fun _ σ' _ => ∃ y2, σ' = [some x, some y, y2]) (fun _ _ => ⟨_, rfl⟩) (fun G1 b1 i' v P' σ' H' hP hv b2 hσ => ?_) (fun G1 b1 σ' H2 b2 hσ => ?_)
    · obtain ⟨y2, rfl⟩ := hσ
      have hv' : ErrV (cls 19) [("most", y), ("what", x)] v H' := by
        match i', hP with
        | 0, hP =>
          obtain rfl := Option.some.inj hP
          exact hv
        | 1, hP =>
          obtain rfl := Option.some.inj hP
          exact hv
        | _ + 2, hP => cases hP
      have hs : Evl.Ex H H' := (a1.trans b1).trans b2
      refine Evl.s_when (b := false) (Evl.et_or (a := false) (b := false) (et_same M.c19.X M.c19.no (evp_var mon_err rfl hv') rfl (Evl.ev_var rfl) (hx.same hs))
        (fun _ => Evl.et_or (a := false) (b := false) (et_same M.c19.X M.c19.no1 (evp_var mon_err rfl hv') rfl (Evl.ev_var rfl) (hy.same hs))
        (fun _ => Evl.et_not (a := true) (Evl.et_B (Evl.ev_call (Evl.ea_cons (Evl.ev_var rfl) (Evl.ea_cons Evl.ev_c Evl.ea_nil)) (sp_stands (i := 19) (by decide) (.inl ⟨_, hv'⟩))))))) (fun z => nomatch z) (fun _ H9 e9 => ⟨b2.trans e9, _, rfl⟩)
    obtain ⟨y2, rfl⟩ := hσ
    have a2 : Evl.Ex H H2 := (a1.trans b1).trans b2
    refine q_forTp (Ps := [ErrV (cls 21) [("item", y), ("line", x)], ErrV (cls 21) [("item", y), ("line", x)]]) (by
        intro P' h
        simp only [List.mem_cons, List.not_mem_nil, or_false, or_self] at h
        subst h
        exact mon_err) (evp_tup (by
        intro P' h
        simp only [List.mem_cons, List.not_mem_nil, or_false, or_self] at h
        subst h
        exact mon_err) (eap_cons mon_err (evp_mk2 M.c21.O M.c21.no M.c21.no1 (Evl.ev_var rfl) (Evl.ev_var rfl)) (eap_cons mon_err (evp_mk2k M.c21.O M.c21.no M.c21.no1 (Evl.ev_var rfl) (Evl.ev_var rfl)) eap_nilA)) (by show 2 ≤ 100000; decide))
      (fun _ σ' _ => ∃ y2, σ' = [some x, some y, y2]) (fun _ _ => ⟨_, rfl⟩) (fun G1 b1 i' v P' σ' H' hP hv b2 hσ => ?_) (fun G1 b1 σ' H3 b2 hσ => ?_)
    · obtain ⟨y2, rfl⟩ := hσ
      have hv' : ErrV (cls 21) [("item", y), ("line", x)] v H' := by
        match i', hP with
        | 0, hP =>
          obtain rfl := Option.some.inj hP
          exact hv
        | 1, hP =>
          obtain rfl := Option.some.inj hP
          exact hv
        | _ + 2, hP => cases hP
      have hs : Evl.Ex H H' := (a2.trans b1).trans b2
      refine Evl.s_when (b := false) (Evl.et_or (a := false) (b := false) (et_same M.c21.X M.c21.no (evp_var mon_err rfl hv') rfl (Evl.ev_var rfl) (hx.same hs))
        (fun _ => Evl.et_or (a := false) (b := false) (et_same M.c21.X M.c21.no1 (evp_var mon_err rfl hv') rfl (Evl.ev_var rfl) (hy.same hs))
        (fun _ => Evl.et_not (a := true) (Evl.et_B (Evl.ev_call (Evl.ea_cons (Evl.ev_var rfl) (Evl.ea_cons Evl.ev_c Evl.ea_nil)) (sp_stands (i := 21) (by decide) (.inl ⟨_, hv'⟩))))))) (fun z => nomatch z) (fun _ H9 e9 => ⟨b2.trans e9, _, rfl⟩)
    obtain ⟨y2, rfl⟩ := hσ
    have a3 : Evl.Ex H H3 := (a2.trans b1).trans b2
    refine q_forTp (Ps := [ErrV (cls 22) [("error", y), ("line", x)], ErrV (cls 22) [("error", y), ("line", x)]]) (by
        intro P' h
        simp only [List.mem_cons, List.not_mem_nil, or_false, or_self] at h
        subst h
        exact mon_err) (evp_tup (by
        intro P' h
        simp only [List.mem_cons, List.not_mem_nil, or_false, or_self] at h
        subst h
        exact mon_err) (eap_cons mon_err (evp_mk2 M.c22.O M.c22.no M.c22.no1 (Evl.ev_var rfl) (Evl.ev_var rfl)) (eap_cons mon_err (evp_mk2k M.c22.O M.c22.no M.c22.no1 (Evl.ev_var rfl) (Evl.ev_var rfl)) eap_nilA)) (by show 2 ≤ 100000; decide))
      (fun _ σ' _ => ∃ y2, σ' = [some x, some y, y2]) (fun _ _ => ⟨_, rfl⟩) (fun G1 b1 i' v P' σ' H' hP hv b2 hσ => ?_) (fun G1 b1 σ' H4 b2 hσ => ?_)
    · obtain ⟨y2, rfl⟩ := hσ
      have hv' : ErrV (cls 22) [("error", y), ("line", x)] v H' := by
        match i', hP with
        | 0, hP =>
          obtain rfl := Option.some.inj hP
          exact hv
        | 1, hP =>
          obtain rfl := Option.some.inj hP
          exact hv
        | _ + 2, hP => cases hP
      have hs : Evl.Ex H H' := (a3.trans b1).trans b2
      refine Evl.s_when (b := false) (Evl.et_or (a := false) (b := false) (et_same M.c22.X M.c22.no (evp_var mon_err rfl hv') rfl (Evl.ev_var rfl) (hx.same hs))
        (fun _ => Evl.et_or (a := false) (b := false) (et_same M.c22.X M.c22.no1 (evp_var mon_err rfl hv') rfl (Evl.ev_var rfl) (hy.same hs))
        (fun _ => Evl.et_not (a := true) (Evl.et_B (Evl.ev_call (Evl.ea_cons (Evl.ev_var rfl) (Evl.ea_cons Evl.ev_c Evl.ea_nil)) (sp_stands (i := 22) (by decide) (.inl ⟨_, hv'⟩))))))) (fun z => nomatch z) (fun _ H9 e9 => ⟨b2.trans e9, _, rfl⟩)
    obtain ⟨y2, rfl⟩ := hσ
    have a4 : Evl.Ex H H4 := (a3.trans b1).trans b2
    intro a na
    exact ⟨20, .ref a, rfl, by decide, .inr ⟨a, rfl, upd_same⟩, fun H9 e9 => q H9 ((a4.trans (Evl.Ex.new na)).trans e9)⟩
end
end K00
namespace K00
open PySem PySem.Spec PyProof.Rows L2 BW
section
variable {P : Program} {w : World} {K : PySem.W.Frag} {mg : Str → Option Value} {base : Heap} {cls : Nat → Addr} {CW : Addr}
/-- the classes by number: each has its field -/
theorem part_at (M : Mks P w K mg base cls) (x : V) : ∀ i : Nat, i < 13 → (parts cls x)[i]? = some (ErrV (cls i) [("part", x)]) ∧ XfC K (cls i) ∧ PySem.W.findIn K (.ref (cls i)) "part" = some none
  | 0, _ => ⟨rfl, M.c0.X, M.c0.no⟩
  | 1, _ => ⟨rfl, M.c1.X, M.c1.no⟩
  | 2, _ => ⟨rfl, M.c2.X, M.c2.no⟩
  | 3, _ => ⟨rfl, M.c3.X, M.c3.no⟩
  | 4, _ => ⟨rfl, M.c4.X, M.c4.no⟩
  | 5, _ => ⟨rfl, M.c5.X, M.c5.no⟩
  | 6, _ => ⟨rfl, M.c6.X, M.c6.no⟩
  | 7, _ => ⟨rfl, M.c7.X, M.c7.no⟩
  | 8, _ => ⟨rfl, M.c8.X, M.c8.no⟩
  | 9, _ => ⟨rfl, M.c9.X, M.c9.no⟩
  | 10, _ => ⟨rfl, M.c10.X, M.c10.no⟩
  | 11, _ => ⟨rfl, M.c11.X, M.c11.no⟩
  | 12, _ => ⟨rfl, M.c12.X, M.c12.no⟩
  | n + 13, h => absurd h (by omega)
theorem val_at (M : Mks P w K mg base cls) (x : V) : ∀ i : Nat, i < 5 → (vals5 cls x)[i]? = some (ErrV (cls (13 + i)) [("value", x)]) ∧ XfC K (cls (13 + i)) ∧ PySem.W.findIn K (.ref (cls (13 + i))) "value" = some none
  | 0, _ => ⟨rfl, M.c13.X, M.c13.no⟩
  | 1, _ => ⟨rfl, M.c14.X, M.c14.no⟩
  | 2, _ => ⟨rfl, M.c15.X, M.c15.no⟩
  | 3, _ => ⟨rfl, M.c16.X, M.c16.no⟩
  | 4, _ => ⟨rfl, M.c17.X, M.c17.no⟩
  | n + 5, h => absurd h (by omega)
theorem scSg : FnScope ["_law_one", "_law_other", "_law_pairs", "_law_made", "_law_again", "_law_at", "_law_is_named"] ["_law_one", "_law_other"] (defScope sSingle) := ⟨rfl, rfl, rfl, by decide +kernel, rfl, by decide +kernel, by decide +kernel⟩
theorem mon_pair {P1 P2 : V → Hp → Prop} (m1 : Mon P1) (m2 : Mon P2) : ∀ P' ∈ [P1, P2], Mon P' := fun P' h => by
  simp only [List.mem_cons, List.not_mem_nil, or_false] at h
  rcases h with rfl | rfl
  · exact m1
  · exact m2
theorem evp_sp {sp : Sp} {Ps : V → List (V → Hp → Prop)} {σ : L2.St} {H : Hp} {te : TE} {x : V} (h : Evl.Ev te σ H x) (hs : ∀ H1 (Q : VK) (E : XK), RetP (LstOf (Ps x)) H1 Q → sp [x] H1 Q E) : Evp (tCall sp [] E0 (tCons te tNil)) σ H (LstOf (Ps x)) :=
  evp_call (Evl.ea_cons h Evl.ea_nil) fun H1 e Q q E => hs H1 Q E fun v H2 e2 p => q v H2 e2 p
/-- one turn: made[at].f != one or again[at].f != other or not stands(made[at]) or not stands(again[at]) -/
theorem et_turn {Ps Qs : List (V → Hp → Prop)} {f : Str} {n i : Nat} {x y m a : V} {σ : L2.St} {H : Hp} {e3 e4 e5 e0 e1 e5' : TE} (hn : n < 23) (X : XfC K (cls n)) (no : PySem.W.findIn K (.ref (cls n)) f = some none) (hm : LstOf Ps m H) (ha : LstOf Qs a H)
    (hP : Ps[i]? = some (ErrV (cls n) [(f, x)])) (hQ : Qs[i]? = some (ErrV (cls n) [(f, y)])) (h3 : Evl.Ev e3 σ H m) (h4 : Evl.Ev e4 σ H a) (h5 : Evl.Ev e5 σ H (.int (i : Int))) (h5' : Evl.Ev e5' σ H (.int (n : Int))) (h0 : Evl.Ev e0 σ H x) (h1 : Evl.Ev e1 σ H y) (sx : SelfNe K H x) (sy : SelfNe K H y) :
    Evl.EvT (tOr (tTest (tOp (rNeS K) (tXA K f (tOp (rIxL K) e3 e5)) e0)) (tOr (tTest (tOp (rNeS K) (tXA K f (tOp (rIxL K) e4 e5)) e1)) (tOr (tNot (tB (tCall (spStands cls) [] E0 (tCons (tOp (rIxL K) e3 e5) (tCons e5' tNil)))))
      (tNot (tB (tCall (spStands cls) [] E0 (tCons (tOp (rIxL K) e4 e5) (tCons e5' tNil)))))))) σ H false := by
  obtain ⟨v, pv, gv⟩ := item_of (K := K) hm hP
  obtain ⟨u, pu, gu⟩ := item_of (K := K) ha hQ
  have ev : Evl.Ev (tOp (rIxL K) e3 e5) σ H v := Evl.ev_op h3 h5 (gv (Evl.Ex.refl H))
  have eu : Evl.Ev (tOp (rIxL K) e4 e5) σ H u := Evl.ev_op h4 h5 (gu (Evl.Ex.refl H))
  have lk : ∀ z : V, List.lookup f [(f, z)] = some z := fun z => by simp [List.lookup]
  exact Evl.et_or (a := false) (b := false) (et_same X no (evp_ev mon_err ev pv) (lk x) h0 sx) (fun _ => Evl.et_or (a := false) (b := false) (et_same X no (evp_ev mon_err eu pu) (lk y) h1 sy)
    (fun _ => Evl.et_or (a := false) (b := false) (Evl.et_not (a := true) (Evl.et_B (Evl.ev_call (Evl.ea_cons ev (Evl.ea_cons h5' Evl.ea_nil)) (sp_stands hn (.inl ⟨_, pv⟩)))))
    (fun _ => Evl.et_not (a := true) (Evl.et_B (Evl.ev_call (Evl.ea_cons eu (Evl.ea_cons h5' Evl.ea_nil)) (sp_stands hn (.inl ⟨_, pu⟩)))))))
theorem ok_single {f fS fP fN fV : Addr} {fd fdS fdP fdN fdV : FuncData} (M : Mks P w K mg base cls) (rng : mg "range" = none) (F : Fun K "_law_single_right" "_law_single_right" sSingle f fd)
    (G : FnOk P w K mg base CX0 2 fS fdS ["_law_error", "_law_at"] (spStands cls)) (bS : Binds K fdS ["_law_error", "_law_at"] []) (gS : mg "_law_stands" = some (.ref fS)) (kS : PySem.W.keepIn K (.ref fS) = true)
    (GP : FnOk P w K mg base CX0 3 fP fdP ["_law_one"] (spParts cls)) (bP : Binds K fdP ["_law_one"] []) (gP : mg "_law_with_parts" = some (.ref fP)) (kP : PySem.W.keepIn K (.ref fP) = true)
    (GN : FnOk P w K mg base CX0 3 fN fdN ["_law_one"] (spParts cls)) (bN : Binds K fdN ["_law_one"] []) (gN : mg "_law_with_named_parts" = some (.ref fN)) (kN : PySem.W.keepIn K (.ref fN) = true)
    (GV : FnOk P w K mg base CX0 3 fV fdV ["_law_one", "_law_is_named"] (spValues cls)) (bV : Binds K fdV ["_law_one", "_law_is_named"] []) (gV : mg "_law_with_values" = some (.ref fV)) (kV : PySem.W.keepIn K (.ref fV) = true) :
    FnOk P w K mg base CX0 4 f fd ["_law_one", "_law_other"] (spPair K) := by
  refine F.ok scSg (fun vs H Q E h => ?_) (fun cdv A outer s H vs Q E hr h => ?_)
  · obtain ⟨x, y, rfl, _⟩ := h
    rfl
  · obtain ⟨x, y, rfl, hx, hy, q⟩ := h
    have nd := scSg.nd
    have hr2 : Room 2 _ := hr.mono (by decide)
    have hr3 : Room 3 _ := hr
    have hu := hu_of hr
    refine ⟨_, pss_cons (ps_set (i := 2) nd rfl (.inl rfl) (pe_lst (pa_cons (pe_tup (pa_cons (pe_call GP hr3 (by rfl) gP kP bP .nil pass0 (pa_cons (pv 0) pa_nil)) (pa_cons (pe_call GN hr3 (by rfl) gN kN bN .nil pass0 (pa_cons (pv 1) pa_nil)) pa_nil))) (pa_cons (pe_tup (pa_cons (pe_call GN hr3 (by rfl) gN kN bN .nil pass0 (pa_cons (pv 0) pa_nil)) (pa_cons (pe_call GP hr3 (by rfl) gP kP bP .nil pass0 (pa_cons (pv 1) pa_nil)) pa_nil))) pa_nil))))
      (pss_cons (ps_for PassesOwn.never rfl (pi_list (pv 2)) (pg_tup rfl (pgs_cons (pg_name (i := 3) nd rfl (.inl rfl)) (pgs_cons (pg_name (i := 4) nd rfl (.inl rfl)) pgs_nil)))
        (pss_one (ps_for PassesOwn.never rfl (pi_range1 rfl rng (pa_cons pe_int pa_nil)) (pg_name (i := 5) nd rfl (.inl rfl))
          (pss_one (ps_if (PW.pt (pw_or (pt_cmpR (op_neS hu) (pe_xa (pe_ix ix_list (pv 3) (pv 5) (fun _ _ => rfl))) (pv 0) (nomark _)) (pw_or (pt_cmpR (op_neS hu) (pe_xa (pe_ix ix_list (pv 4) (pv 5) (fun _ _ => rfl))) (pv 1) (nomark _)) (pw_or (pt_not (pt_val (pe_call G hr2 (by rfl) gS kS bS .nil pass0 (pa_cons (pe_ix ix_list (pv 3) (pv 5) (fun _ _ => rfl)) (pa_cons (pv 5) pa_nil))))) (pw_or1 (pt_not (pt_val (pe_call G hr2 (by rfl) gS kS bS .nil pass0 (pa_cons (pe_ix ix_list (pv 4) (pv 5) (fun _ _ => rfl)) (pa_cons (pv 5) pa_nil)))))))))) (pss_one (ps_ret pe_bl)) pss_nil)))))
      (pss_cons (ps_for PassesOwn.never rfl (pi_tup (pe_tup (pa_cons pe_bl (pa_cons pe_bl pa_nil)))) (pg_name (i := 6) nd rfl (.inl rfl))
        (pss_cons (ps_par (i := 3) (j := 4) (by rfl) nd rfl rfl (by decide) rfl rfl (pa_cons (pe_call GV hr3 (by rfl) gV kV bV .nil pass0 (pa_cons (pv 0) (pa_cons (pv 6) pa_nil))) (pa_cons (pe_call GV hr3 (by rfl) gV kV bV .nil pass0 (pa_cons (pv 1) (pa_cons (pe_not (pv 6)) pa_nil))) pa_nil)) (by rfl))
        (pss_one (ps_for PassesOwn.never rfl (pi_range1 rfl rng (pa_cons pe_int pa_nil)) (pg_name (i := 5) nd rfl (.inl rfl))
          (pss_one (ps_if (PW.pt (pw_or (pt_cmpR (op_neS hu) (pe_xa (pe_ix ix_list (pv 3) (pv 5) (fun _ _ => rfl))) (pv 0) (nomark _)) (pw_or (pt_cmpR (op_neS hu) (pe_xa (pe_ix ix_list (pv 4) (pv 5) (fun _ _ => rfl))) (pv 1) (nomark _)) (pw_or (pt_not (pt_val (pe_call G hr2 (by rfl) gS kS bS .nil pass0 (pa_cons (pe_ix ix_list (pv 3) (pv 5) (fun _ _ => rfl)) (pa_cons (pe_op op_add pe_int (pv 5)) pa_nil))))) (pw_or1 (pt_not (pt_val (pe_call G hr2 (by rfl) gS kS bS .nil pass0 (pa_cons (pe_ix ix_list (pv 4) (pv 5) (fun _ _ => rfl)) (pa_cons (pe_op op_add pe_int (pv 5)) pa_nil)))))))))) (pss_one (ps_ret pe_bl)) pss_nil))))))
      (pss_one (ps_ret pe_bl)))), ?_⟩
    let PP : V → V → Hp → Prop := fun z => LstOf (parts cls z)
    have mP : ∀ z, Mon (PP z) := fun z => mon_lst mon_parts
    have evP : ∀ (z : V) (σ : L2.St) (H1 : Hp) (te : TE), Evl.Ev te σ H1 z → Evp (tCall (spParts cls) [] E0 (tCons te tNil)) σ H1 (PP z) := fun z σ H1 te h => evp_sp (Ps := parts cls) h fun H2 Q2 E2 q2 => ⟨z, rfl, q2⟩
    have evV : ∀ (z : V) (b : Bool) (σ : L2.St) (H1 : Hp) (te tb : TE), Evl.Ev te σ H1 z → Evl.Ev tb σ H1 (.bl b) → Evp (tCall (spValues cls) [] E0 (tCons te (tCons tb tNil))) σ H1 (LstOf (vals5 cls z)) := fun z b σ H1 te tb h hb =>
      evp_call (Evl.ea_cons h (Evl.ea_cons hb Evl.ea_nil)) fun H2 e Q2 q2 E2 => ⟨z, b, rfl, fun v H3 e3 p => q2 v H3 e3 p⟩
    have mT := mon_tup (mon_pair (mP x) (mP y))
    refine q_asgP (P := LstOf [TupOf [PP x, PP y], TupOf [PP x, PP y]]) (evp_lst (mon_pair mT mT) (eap_cons mT (evp_tup (mon_pair (mP x) (mP y)) (eap_cons (mP x) (evP x _ _ _ (Evl.ev_var rfl)) (eap_cons (mP y) (evP y _ _ _ (Evl.ev_var rfl)) eap_nilA)) (by show 2 ≤ 100000; decide))
      (eap_cons mT (evp_tup (mon_pair (mP x) (mP y)) (eap_cons (mP x) (evP x _ _ _ (Evl.ev_var rfl)) (eap_cons (mP y) (evP y _ _ _ (Evl.ev_var rfl)) eap_nilA)) (by show 2 ≤ 100000; decide)) eap_nilA)) (by show 2 ≤ 100000; decide)) fun v2 H2 a2 h2 => ?_
    refine q_forLp (Ps := [TupOf [PP x, PP y], TupOf [PP x, PP y]]) (mon_pair mT mT) (evp_var (mon_lst (mon_pair mT mT)) rfl h2) (fun _ σ' _ => ∃ y3 y4 y5, σ' = [some x, some y, some v2, y3, y4, y5, none]) (fun _ _ => ⟨_, _, _, rfl⟩) (fun G1 b1 i' v P' σ' H' hP hv b2 hσ => ?_) (fun G1 b1 σ' H3 b2 hσ => ?_)
    · obtain ⟨y3, y4, y5, rfl⟩ := hσ
      have hv' : TupOf [PP x, PP y] v H' := by
        match i', hP with
        | 0, hP =>
          obtain rfl := Option.some.inj hP
          exact hv
        | 1, hP =>
          obtain rfl := Option.some.inj hP
          exact hv
        | _ + 2, hP => cases hP
      obtain ⟨p, vs, rfl, hp, r⟩ := hv'
      cases r with
      | @cons _ _ m _ _ hm r =>
        cases r with
        | @cons _ _ a _ _ ha r =>
          cases r
          refine ⟨p, [m, a], rfl, Evl.st_of hp, rfl, m, [a], rfl, a, [], rfl, rfl, ?_⟩
          have hs : Evl.Ex H H' := (a2.trans b1).trans b2
          refine Evl.s_forR1 (Evl.ea_cons Evl.ev_c Evl.ea_nil) ⟨by decide, by decide⟩ (fun _ σ' H4 => Evl.Ex H' H4 ∧ ∃ y5, σ' = [some x, some y, some v2, some m, some a, y5, none]) (fun H4 e4 => ⟨e4, _, rfl⟩) (fun i σ' H4 hi hσ => ?_) (fun σ' H4 hσ => ?_)
          · obtain ⟨e4, z5, rfl⟩ := hσ
            have hi' : i < 13 := by omega
            obtain ⟨g1, g2, g3⟩ := part_at M x i hi'
            obtain ⟨g4, _, _⟩ := part_at M y i hi'
            exact Evl.s_when (b := false) (et_turn (n := i) (by omega) g2 g3 (mP x _ _ _ e4 hm) (mP y _ _ _ e4 ha) g1 g4 (Evl.ev_var rfl) (Evl.ev_var rfl) (Evl.ev_var rfl) (Evl.ev_var rfl) (Evl.ev_var rfl) (Evl.ev_var rfl) (hx.same (hs.trans e4)) (hy.same (hs.trans e4)))
              (fun z => nomatch z) (fun _ H9 e9 => ⟨e4.trans e9, _, rfl⟩)
          · obtain ⟨e4, z5, rfl⟩ := hσ
            exact ⟨b2.trans e4, _, _, _, rfl⟩
    · obtain ⟨y3, y4, y5, rfl⟩ := hσ
      have a3 : Evl.Ex H H3 := (a2.trans b1).trans b2
      have mB : ∀ b : Bool, Mon (fun v _ => v = V.bl b) := fun b v H H' e h => h
      refine q_forTp (Ps := [fun v _ => v = V.bl false, fun v _ => v = V.bl true]) (mon_pair (mB _) (mB _)) (evp_tup (mon_pair (mB _) (mB _)) (eap_cons (mB _) (evp_of Evl.ev_c) (eap_cons (mB _) (evp_of Evl.ev_c) eap_nilA)) (by show 2 ≤ 100000; decide))
        (fun _ σ' _ => ∃ y3 y4 y5 y6, σ' = [some x, some y, some v2, y3, y4, y5, y6]) (fun _ _ => ⟨_, _, _, _, rfl⟩) (fun G2 b3 i' v P' σ' H' hP hv b4 hσ => ?_) (fun G2 b3 σ' H4 b4 hσ => q H4 ((a3.trans b3).trans b4))
      obtain ⟨z3, z4, z5, z6, rfl⟩ := hσ
      obtain ⟨b, rfl⟩ : ∃ b, v = V.bl b := by
        match i', hP with
        | 0, hP =>
          obtain rfl := Option.some.inj hP
          exact ⟨_, hv⟩
        | 1, hP =>
          obtain rfl := Option.some.inj hP
          exact ⟨_, hv⟩
        | _ + 2, hP => cases hP
      have hs : Evl.Ex H H' := (a3.trans b3).trans b4
      refine evV x b _ _ _ _ (Evl.ev_var rfl) (Evl.ev_var rfl) H' (Evl.Ex.refl H') _ fun m H4 e4 hm => ?_
      refine evV y (!b) _ _ _ _ (Evl.ev_var rfl) (Evl.ev_notV (Evl.ev_var rfl)) H4 (Evl.Ex.refl H4) _ fun a H5 e5 ha => ?_
      refine ⟨m, a, rfl, ?_⟩
      have hm5 := mon_lst mon_vals5 _ _ _ e5 hm
      have hs5 := (hs.trans e4).trans e5
      refine Evl.s_forR1 (Evl.ea_cons Evl.ev_c Evl.ea_nil) ⟨by decide, by decide⟩ (fun _ σ' H6 => Evl.Ex H5 H6 ∧ ∃ y5, σ' = [some x, some y, some v2, some m, some a, y5, some (.bl b)]) (fun H6 e6 => ⟨e6, _, rfl⟩) (fun i σ' H6 hi hσ => ?_) (fun σ' H6 hσ => ?_)
      · obtain ⟨e6, y5', rfl⟩ := hσ
        have hi' : i < 5 := by omega
        obtain ⟨g1, g2, g3⟩ := val_at M x i hi'
        obtain ⟨g4, _, _⟩ := val_at M y i hi'
        exact Evl.s_when (b := false) (et_turn (n := 13 + i) (by omega) g2 g3 (mon_lst mon_vals5 _ _ _ e6 hm5) (mon_lst mon_vals5 _ _ _ e6 ha) g1 g4 (Evl.ev_var rfl) (Evl.ev_var rfl) (Evl.ev_var rfl) (Evl.ev_is (Evl.ev_op Evl.ev_c (Evl.ev_var rfl) Evl.rv_I0) (by rw [Int.natCast_add] <;> rfl)) (Evl.ev_var rfl) (Evl.ev_var rfl) (hx.same (hs5.trans e6)) (hy.same (hs5.trans e6)))
          (fun z => nomatch z) (fun _ H9 e9 => ⟨e6.trans e9, _, rfl⟩)
      · obtain ⟨e6, y5', rfl⟩ := hσ
        exact ⟨((b4.trans e4).trans e5).trans e6, _, _, _, _, rfl⟩
end
end K00
namespace K00
open PySem PySem.Spec PyProof.Rows L2 BW
abbrev sField : Stmt := topS 28
abbrev sLaw : Stmt := topS 36
/-- the heap without what stands at p -/
def hide (p : Addr) (H : Hp) : Hp := fun b => if b = p then none else H b
theorem hide_at {p a : Addr} {H : Hp} {o : HO} (n : a ≠ p) (h : H a = some o) : hide p H a = some o := by
  unfold hide
  rw [if_neg n]
  exact h
theorem hide_sub (p : Addr) (H : Hp) : Evl.Ex (hide p H) H := fun b o h => by
  unfold hide at h
  split at h
  · cases h
  · exact h
theorem hide_kp {p : Addr} {H H' : Hp} (k : Kp p H H') : Evl.Ex (hide p H) (hide p H') := fun b o h => by
  unfold hide at h
  split at h
  · cases h
  · rename_i n
    exact hide_at n (k b o n h)
section
variable {P : Program} {w : World} {K : PySem.W.Frag} {mg : Str → Option Value} {base : Heap} {cls : Nat → Addr} {CW : Addr}
theorem land_size : ∀ s : Int, 0 ≤ s → s < 40 → (Str.ofString "land").length + (Str.ofString (toString s)).length ≤ sizeLine := by
  have h : ∀ n : Fin 40, (Str.ofString "land").length + (Str.ofString (toString ((n.val : Nat) : Int))).length ≤ sizeLine := by decide +kernel
  intro s h0 h1
  have e : ((s.toNat : Nat) : Int) = s := Int.toNat_of_nonneg h0
  have z := h ⟨s.toNat, by omega⟩
  dsimp only at z
  rw [e] at z
  exact z
theorem scFd : FnScope ["_law_store_here", "_law_way", "_law_great", "_law_small"] ["_law_store_here"] (defScope sField) := ⟨rfl, rfl, rfl, by decide +kernel, rfl, by decide +kernel, by decide +kernel⟩
def spField (K : PySem.W.Frag) : Sp := fun vs H Q _ => ∃ (p : Addr) (n : Nat), vs = [.ref p] ∧ Pen H p n ∧ n + 3 ≤ 100000 ∧ ∀ v H', Kp p H H' → Pen H' p (n + 3) → SelfNe K (hide p H') v → Q v H'
theorem ok_field {f fN : Addr} {fd fdN : FuncData} (M : Mks P w K mg base cls) (ms : mg "str" = none) (F : Fun K "_law_field" "_law_field" sField f fd)
    (GN : FnOk P w K mg base CX0 1 fN fdN ["_law_store_here", "_law_many"] spNext) (bN : Binds K fdN ["_law_store_here", "_law_many"] []) (gN : mg "_law_next" = some (.ref fN)) (kN : PySem.W.keepIn K (.ref fN) = true) :
    FnOk P w K mg base CX0 4 f fd ["_law_store_here"] (spField K) := by
  refine F.ok scFd (fun vs H Q E h => ?_) (fun cdv A outer s H vs Q E hr h => ?_)
  · obtain ⟨p, n, rfl, _⟩ := h
    rfl
  · obtain ⟨p, n, rfl, hP, hn, q⟩ := h
    have nd := scFd.nd
    have hr1 : Room 1 _ := hr.mono (by decide)
    have hr2 : Room 2 _ := hr.mono (by decide)
    refine ⟨_, pss_cons (ps_par3 (i := 1) (j := 2) (l := 3) (by rfl) nd rfl rfl rfl (by decide) (by decide) (by decide) rfl rfl rfl
        (pa_cons (pe_call GN hr1 (by rfl) gN kN bN .nil pass0 (pa_cons (pv 0) (pa_cons pe_int pa_nil)))
        (pa_cons (pe_op op_sub (pe_call GN hr1 (by rfl) gN kN bN .nil pass0 (pa_cons (pv 0) (pa_cons (pe_op op_pow pe_int pe_int) pa_nil))) (pe_op op_pow pe_int pe_int))
        (pa_cons (pe_call GN hr1 (by rfl) gN kN bN .nil pass0 (pa_cons (pv 0) (pa_cons pe_int pa_nil))) pa_nil))) (by rfl))
      (pss_cons (ps_if (pt_cmpR op_lt (pv 1) pe_int (nomark _)) (pss_one (ps_ret (pe_ix ix_list (pe_lst (pa_cons (pv 2) (pa_cons (pv 3) (pa_cons (pe_un un_neg (pv 3)) pa_nil)))) (pv 1) (fun _ _ => rfl)))) pss_nil)
      (pss_cons (ps_if (pt_cmpR op_lt (pv 1) pe_int (nomark _)) (pss_one (ps_ret (pe_ix ix_list (pe_lst (pa_cons (pe_op op_add_str pe_str (pe_callTy call_str_int (by rfl) ms (by decide +kernel) (pa_cons (pv 3) pa_nil))) (pa_cons pe_str pa_nil))) (pe_op op_sub (pv 1) pe_int) (fun _ _ => rfl)))) pss_nil)
      (pss_cons (ps_if (pt_cmpR op_eq (pv 1) pe_int (nomark _)) (pss_one (ps_ret (pe_ifExp (pt_cmpR op_lt (pv 3) pe_int (nomark _)) pe_non (pe_cmpR op_lt (pv 3) pe_int (nomark _))))) pss_nil)
      (pss_cons (ps_if (pt_cmpR op_eq (pv 1) pe_int (nomark _)) (pss_one (ps_ret (pe_lst (pa_cons (pv 3) (pa_cons (pe_lst (pa_cons (pv 2) (pa_cons pe_non pa_nil))) (pa_cons pe_str pa_nil)))))) pss_nil)
      (pss_cons (ps_if (pt_cmpR op_eq (pv 1) pe_int (nomark _)) (pss_one (ps_ret (pe_tup (pa_cons (pv 2) (pa_cons (pe_tup (pa_cons (pv 3) (pa_cons (pe_lst pa_nil) pa_nil))) pa_nil))))) pss_nil)
      (pss_one (ps_ret (pe_ifExp (pt_cmpR op_eq (pv 1) pe_int (nomark _)) (pe_disp (pps_cons pe_str (pe_lst (pa_cons (pv 3) pa_nil)) pps_nil) rfl rfl (by decide) (by decide)) (pe_e1 M.c13 hr2 (pv 3)))))))))), ?_⟩
    -- three numbers
    refine ⟨.ref p, rfl, p, n, 10, rfl, hP, by omega, by decide, by decide, fun way H1 w0 w1 k1 P1 => ?_⟩
    refine ⟨.ref p, rfl, 10, 24, rfl, rfl, ⟨by decide, by decide, by decide⟩, p, n + 1, _, rfl, P1, by omega, by decide, by decide, fun g0 H2 _ _ k2 P2 => ?_⟩
    refine ⟨10, 23, rfl, rfl, ⟨by decide, by decide, by decide⟩, _, _, rfl, rfl, ?_⟩
    refine ⟨.ref p, rfl, p, n + 2, 40, rfl, P2, by omega, by decide, by decide, fun small H3 s0 s1 k3 P3 => ?_⟩
    refine ⟨_, _, _, rfl, ?_⟩
    generalize (g0 - 10 ^ (23 : Int).toNat : Int) = great
    have kk : Kp p H H3 := (k1.trans k2).trans k3
    have fin : ∀ v H', Evl.Ex H3 H' → SelfNe K (hide p H') v → Q v H' := fun v H' e hv => q v H' (kk.trans (Same.kp e)) (P3.same e) hv
    have np : ∀ {a : Addr} {H' : Hp}, Evl.Ex H3 H' → H' a = none → a ≠ p := fun e na => by
      obtain ⟨L, ns, k, r, h1, _⟩ := P3
      exact (ne_of_none (e _ _ h1) na).symm
    have eqI : ∀ (a b : Int), decide (V.int a = V.int b) = true → a = b := fun a b h => V.int.inj (of_decide_eq_true h)
    have lg : small.natAbs.log2 < 1920 := Nat.lt_of_lt_of_le (PySem.Flt.log2_lt_of (n := small.natAbs) (k := 6) (by decide) (by omega)) (by decide)
    refine Evl.q_when (b := decide (way < 3)) (Evl.et_test (Evl.ev_op (Evl.ev_var rfl) Evl.ev_c Evl.rv_I0)) (fun hb G e => ?_) (fun hb1 G e => ?_)
    · have hw : way < 3 := of_decide_eq_true hb
      refine ⟨_, rfl, _, rfl, _, rfl, _, rfl, (by show 3 ≤ sizeLine; decide), fun a na => ⟨.int way, rfl, ?_⟩⟩
      have hat : ∀ (x y z : Int), ∃ k : Int, atI [V.int x, V.int y, V.int z] way = some (.int k) := fun x y z => by
        rcases (by omega : way = 0 ∨ way = 1 ∨ way = 2) with rfl | rfl | rfl
        · exact ⟨_, atI_nat (j := 0) rfl⟩
        · exact ⟨_, atI_nat (j := 1) rfl⟩
        · exact ⟨_, atI_nat (j := 2) rfl⟩
      obtain ⟨k, hk⟩ := hat (g0 - 10 ^ (23 : Int).toNat) small (-small)
      exact ⟨a, _, way, .int k, rfl, rfl, .inl (.inl upd_same), hk, fin _ _ (e.trans (Evl.Ex.new na)) (.flat rfl)⟩
    refine Evl.q_when (b := decide (way < 5)) (Evl.et_test (Evl.ev_op (Evl.ev_var rfl) Evl.ev_c Evl.rv_I0)) (fun hb G2 e2 => ?_) (fun hb2 G2 e2 => ?_)
    · have hw : way < 5 := of_decide_eq_true hb
      have hw1 : ¬ way < 3 := of_decide_eq_false hb1
      refine ⟨_, rfl, small, rfl, lg, _, _, rfl, rfl, land_size small s0 s1, (by show 2 ≤ sizeLine; decide), fun a na => ⟨.int way, rfl, _, _, rfl, rfl, ?_⟩⟩
      have hat : ∀ (x y : Str), ∃ k : Str, atI [V.str x, V.str y] (way - 3) = some (.str k) := fun x y => by
        rcases (by omega : way = 3 ∨ way = 4) with rfl | rfl
        · exact ⟨_, atI_nat (j := 0) rfl⟩
        · exact ⟨_, atI_nat (j := 1) rfl⟩
      obtain ⟨k, hk⟩ := hat _ _
      exact ⟨a, _, way - 3, .str k, rfl, rfl, .inl (.inl upd_same), hk, fin _ _ ((e.trans e2).trans (Evl.Ex.new na)) (.flat rfl)⟩
    refine Evl.q_when (b := decide (V.int way = V.int 5)) (Evl.et_test (Evl.ev_op (Evl.ev_var rfl) Evl.ev_c (Evl.rv_eq rfl))) (fun hb G3 e3 => ?_) (fun hb3 G3 e3 => ?_)
    · refine ⟨.int small, rfl, small, 20, rfl, rfl, _, rfl, ?_⟩
      refine ite2 (fun c => ?_) (fun c => ?_)
      · exact fin _ _ ((e.trans e2).trans e3) (.flat rfl)
      · exact ⟨.int small, rfl, small, 30, rfl, rfl, fin _ _ ((e.trans e2).trans e3) (.flat rfl)⟩
    refine Evl.q_when (b := decide (V.int way = V.int 6)) (Evl.et_test (Evl.ev_op (Evl.ev_var rfl) Evl.ev_c (Evl.rv_eq rfl))) (fun hb G4 e4 => ?_) (fun hb4 G4 e4 => ?_)
    · refine ⟨_, rfl, _, rfl, (by show 2 ≤ sizeLine; decide), fun a na => ⟨(by show 3 ≤ sizeLine; decide), fun o no => ?_⟩⟩
      have ee := (((e.trans e2).trans e3).trans e4).trans (Evl.Ex.new (o := .lst [.int (g0 - 10 ^ (23 : Int).toNat), .non]) na)
      exact fin _ _ (ee.trans (Evl.Ex.new no)) (.lst (hide_at (np ee no) upd_same))
    refine Evl.q_when (b := decide (V.int way = V.int 7)) (Evl.et_test (Evl.ev_op (Evl.ev_var rfl) Evl.ev_c (Evl.rv_eq rfl))) (fun hb G5 e5 => ?_) (fun hb5 G5 e5 => ?_)
    · refine ⟨_, rfl, _, rfl, Nat.zero_le _, fun b nb => ⟨(by show 2 ≤ sizeLine; decide), fun a na => ⟨(by show 2 ≤ sizeLine; decide), fun o no => ?_⟩⟩⟩
      have ee := ((((e.trans e2).trans e3).trans e4).trans e5).trans ((Evl.Ex.new nb).trans (Evl.Ex.new (o := .tup [.int small, .ref b]) na))
      exact fin _ _ (ee.trans (Evl.Ex.new no)) (.tup (hide_at (np ee no) upd_same))
    have e6 := (((e.trans e2).trans e3).trans e4).trans e5
    refine ⟨.int way, rfl, rfl, _, rfl, ?_⟩
    refine ite2 (fun c => ?_) (fun c => ?_)
    · intro o no
      refine ⟨.int small, rfl, (by show 1 ≤ sizeLine; decide), fun a na => ?_⟩
      have noa : o ≠ a := ne_of_none upd_same na
      refine ⟨by rw [upd_ne noa, upd_same], [(.inr "a", .ref a)], rfl, (by show 1 ≤ 15; decide), ?_⟩
      refine fin _ _ ?_ (.dict (k := .inr "a") (x := .ref a) (hide_at (np e6 no) upd_same))
      exact e6.trans fun b u hb => by
        have n1 : b ≠ o := ne_of_none hb no
        have n2 : b ≠ a := ne_of_none (Evl.Ex.new no _ _ hb) na
        rw [upd_ne n1, upd_ne n2, upd_ne n1]
        exact hb
    · refine ⟨.int small, rfl, rfl, rfl, fun a na => ⟨a, cls 13, .int small, rfl, M.c13.O, M.c13.no, upd_same, fun d H' nd' _ k h1 h2 => ⟨rfl, ?_⟩⟩⟩
      have nd2 : G5 d = none := by
        have z := nd'
        by_cases hda : d = a
        · rw [hda]; exact na
        · rw [upd_ne hda] at z
          exact z
      exact fin _ _ (e6.trans (kept_new na k)) (.err (hide_at (np e6 na) h1) (hide_at (np e6 nd2) h2) M.ne13)
theorem scLw : FnScope ["_law_script", "_law_store_here", "_law_turn", "_law_one", "_law_other"] ["_law_script"] (defScope sLaw) := ⟨rfl, rfl, rfl, by decide +kernel, rfl, by decide +kernel, by decide +kernel⟩
def spLaw (K : PySem.W.Frag) : Sp := fun vs H Q _ => ∃ (a : Addr) (ns : List Int), vs = [.ref a] ∧ SqL K H a (ns.map V.int) ∧ ns.length ≤ 63 ∧ ∀ H', Q (.bl true) H'
theorem ok_law {f fS fF fG fO : Addr} {fd fdS fdF fdG fdO : FuncData} (rng : mg "range" = none) (F : Fun K "law" "law" sLaw f fd)
    (GS : FnOk P w K mg base CX0 1 fS fdS ["_law_script"] (spStore K)) (bS : Binds K fdS ["_law_script"] []) (gS : mg "_law_store" = some (.ref fS)) (kS : PySem.W.keepIn K (.ref fS) = true)
    (GF : FnOk P w K mg base CX0 4 fF fdF ["_law_store_here"] (spField K)) (bF : Binds K fdF ["_law_store_here"] []) (gF : mg "_law_field" = some (.ref fF)) (kF : PySem.W.keepIn K (.ref fF) = true)
    (GG : FnOk P w K mg base CX0 4 fG fdG ["_law_one", "_law_other"] (spPair K)) (bG : Binds K fdG ["_law_one", "_law_other"] []) (gG : mg "_law_single_right" = some (.ref fG)) (kG : PySem.W.keepIn K (.ref fG) = true)
    (GO : FnOk P w K mg base CX0 4 fO fdO ["_law_one", "_law_other"] (spPair K)) (bO : Binds K fdO ["_law_one", "_law_other"] []) (gO : mg "_law_others_right" = some (.ref fO)) (kO : PySem.W.keepIn K (.ref fO) = true) :
    FnOk P w K mg base CX0 5 f fd ["_law_script"] (spLaw K) := by
  refine F.ok scLw (fun vs H Q E h => ?_) (fun cdv A outer s H vs Q E hr h => ?_)
  · obtain ⟨a, ns, rfl, _⟩ := h
    rfl
  · obtain ⟨a, ns, rfl, hS, hlen, q⟩ := h
    have nd := scLw.nd
    have hr1 : Room 1 _ := hr.mono (by decide)
    have hr4 : Room 4 _ := hr
    refine ⟨_, pss_cons (ps_set (i := 1) nd rfl (.inl rfl) (pe_call GS hr1 (by rfl) gS kS bS .nil pass0 (pa_cons (pv 0) pa_nil)))
      (pss_cons (ps_for PassesOwn.never rfl (pi_range1 rfl rng (pa_cons pe_int pa_nil)) (pg_name (i := 2) nd rfl (.inl rfl))
        (pss_cons (ps_par (i := 3) (j := 4) (by rfl) nd rfl rfl (by decide) rfl rfl (pa_cons (pe_call GF hr4 (by rfl) gF kF bF .nil pass0 (pa_cons (pv 1) pa_nil)) (pa_cons (pe_call GF hr4 (by rfl) gF kF bF .nil pass0 (pa_cons (pv 1) pa_nil)) pa_nil)) (by rfl))
        (pss_one (ps_if (PW.pt (pw_or (pt_not (pt_val (pe_call GG hr4 (by rfl) gG kG bG .nil pass0 (pa_cons (pv 3) (pa_cons (pv 4) pa_nil)))))
          (pw_or (pt_not (pt_val (pe_call GO hr4 (by rfl) gO kO bO .nil pass0 (pa_cons (pv 3) (pa_cons (pv 4) pa_nil))))) (pw_or1 (pt_not (pt_val (pe_call GO hr4 (by rfl) gO kO bO .nil pass0 (pa_cons (pv 4) (pa_cons (pv 3) pa_nil)))))))))
          (pss_one (ps_ret pe_bl)) pss_nil))))
      (pss_one (ps_ret pe_bl))), ?_⟩
    refine ⟨.ref a, rfl, a, ns, rfl, hS, hlen, fun p H1 e1 np hP => ?_⟩
    refine Evl.q_forR1 (Evl.ea_cons Evl.ev_c Evl.ea_nil) ⟨by decide, by decide⟩ (fun i σ' H' => ∃ y2 y3 y4, σ' = [some (.ref a), some (.ref p), y2, y3, y4] ∧ Pen H' p (6 * i)) (fun H2 e2 => ⟨_, _, _, rfl, hP.same e2⟩) (fun i σ' H' hi hσ => ?_) (fun σ' H' hσ => q H')
    obtain ⟨y2, y3, y4, rfl, hP'⟩ := hσ
    have hi' : i < 4 := by omega
    refine ⟨.ref p, rfl, p, 6 * i, rfl, hP', by omega, fun x H2 k2 P2 hx => ?_⟩
    refine ⟨.ref p, rfl, p, 6 * i + 3, rfl, P2, by omega, fun y H3 k3 P3 hy => ?_⟩
    refine ⟨x, y, rfl, ?_⟩
    have hx3 : SelfNe K H3 x := (hx.same (hide_kp k3)).same (hide_sub p H3)
    have hy3 : SelfNe K H3 y := hy.same (hide_sub p H3)
    have call : ∀ (u v : V) (i j : Nat) (H4 : Hp), Evl.Ex H3 H4 → SelfNe K H3 u → SelfNe K H3 v → ∀ (σ : L2.St), σ[i]? = some (some u) → σ[j]? = some (some v) → Evl.EvT (tNot (tB (tCall (spPair K) [] E0 (tCons (tVar i) (tCons (tVar j) tNil))))) σ H4 false := fun u v i j H4 e4 hu hv σ h1 h2 =>
      Evl.et_not (a := true) (Evl.et_B (Evl.ev_call (Evl.ea_cons (Evl.ev_var h1) (Evl.ea_cons (Evl.ev_var h2) Evl.ea_nil)) fun H5 e5 Q5 q5 _ => ⟨u, v, rfl, hu.same (e4.trans e5), hv.same (e4.trans e5), q5⟩))
    have r3 := Evl.Ex.refl H3
    refine Evl.s_when (b := false) (Evl.et_or (a := false) (b := false) (call x y 3 4 H3 r3 hx3 hy3 _ rfl rfl) (fun _ => Evl.et_or (a := false) (b := false) (call x y 3 4 H3 r3 hx3 hy3 _ rfl rfl) (fun _ => call y x 4 3 H3 r3 hy3 hx3 _ rfl rfl)))
      (fun z => nomatch z) (fun _ H9 e9 => ⟨_, _, _, rfl, P3.same e9⟩)
end
end K00
namespace K00
open PySem PySem.Spec PyProof.Rows L2 BW
/-- which class is below which, as one look -/
def kitsB (K : PySem.W.Frag) (Cs : List Addr) (CW : Addr) : Bool := (List.range 23).all fun i =>
  ((List.range 23).all fun j => decide (PySem.W.kitOne K (.ref (Cs.getD i 0)) (.ref (Cs.getD j 0)) = some (kb i j))) && (decide (PySem.W.kitOne K (.ref (Cs.getD i 0)) (.ref CW) = some true) &&
  (decide (PySem.W.kitOne K (.ref (Cs.getD i 0)) (.type "ValueError") = some true) && decide (PySem.W.kitAny K (.ref (Cs.getD i 0)) odd6 = some false)))
theorem kitsB_ok {K : PySem.W.Frag} {Cs : List Addr} {CW : Addr} (h : kitsB K Cs CW = true) : ∀ i, i < 23 → (∀ j, j < 23 → PySem.W.kitOne K (.ref (Cs.getD i 0)) (.ref (Cs.getD j 0)) = some (kb i j)) ∧ PySem.W.kitOne K (.ref (Cs.getD i 0)) (.ref CW) = some true ∧
    PySem.W.kitOne K (.ref (Cs.getD i 0)) (.type "ValueError") = some true ∧ PySem.W.kitAny K (.ref (Cs.getD i 0)) odd6 = some false := by
  unfold kitsB at h
  simp only [List.all_eq_true, List.mem_range, Bool.and_eq_true, decide_eq_true_eq] at h
  exact fun i hi => h i hi
theorem all_mk {l : PySem.W.OpenLaw} {w : World} {K : PySem.W.Frag} {h : Heap} {mg : Str → Option Value} {fa : Addr} (X : K.In h) (G : h.Ns mainGlobals mg) (hfa : mg "law" = some (.ref fa))
    {C0 C1 C2 C3 C4 C5 C6 C7 C8 C9 C10 C11 C12 C13 C14 C15 C16 C17 C18 C19 C20 C21 C22 CW : Addr}
    {nm0 q0 : Str} {N0 : Addr} {bs0 bm0 : List Value} {sn0 : List Str} {sb0 : List Value} {ab0 : Bool} {cl0 : Option Bool} {dd0 : Option Addr} {ka0 kb0 kc0 kd0 ke0 : Option Value}
    (a0 : PySem.W.nsIn K mainGlobals "BadRegion" = some (some (.ref C0)))
    (o0 : K.lookup C0 = some (excClassObj nm0 q0 C0 N0 bs0 bm0 true sn0 sb0 ab0 cl0 dd0 ka0 kb0 kc0 kd0 ke0 "ValueError.__new__"))
    (r0 : PySem.HandSPX.refsVE bm0 = true)
    (b0 : clsB K C0 ["part"] = true)
    {I0 : Addr} {jd0 jn0 : Option Addr} {js0 : Array (Option Value)} {jo0 jk0 jc0 jp0 je0 jt0 : Value}
    (i0 : PySem.W.findIn K (.ref C0) "__init__" = some (some (.ref I0)))
    (l0 : K.lookup I0 = some ⟨jo0, jd0, .func (PySem.W.fnOf "__init__" "BadRegion.__init__" (defArgs (inClass (topS 2) 0)) (defBody (inClass (topS 2) 0)) (defScope (inClass (topS 2) 0)) .none jk0 jc0 jp0 jn0 je0 jt0), js0⟩)
    (d0 : PySem.W.codeIn K je0 "BadRegion.__init__" = true)
    (k0 : PySem.W.keepIn K (.ref I0) = true)
    (t0 : PySem.W.typeIn K (.ref I0) = some (.type "function"))
    {nm1 q1 : Str} {N1 : Addr} {bs1 bm1 : List Value} {sn1 : List Str} {sb1 : List Value} {ab1 : Bool} {cl1 : Option Bool} {dd1 : Option Addr} {ka1 kb1 kc1 kd1 ke1 : Option Value}
    (a1 : PySem.W.nsIn K mainGlobals "BadWorld" = some (some (.ref C1)))
    (o1 : K.lookup C1 = some (excClassObj nm1 q1 C1 N1 bs1 bm1 true sn1 sb1 ab1 cl1 dd1 ka1 kb1 kc1 kd1 ke1 "ValueError.__new__"))
    (r1 : PySem.HandSPX.refsVE bm1 = true)
    (b1 : clsB K C1 ["part"] = true)
    {I1 : Addr} {jd1 jn1 : Option Addr} {js1 : Array (Option Value)} {jo1 jk1 jc1 jp1 je1 jt1 : Value}
    (i1 : PySem.W.findIn K (.ref C1) "__init__" = some (some (.ref I1)))
    (l1 : K.lookup I1 = some ⟨jo1, jd1, .func (PySem.W.fnOf "__init__" "BadWorld.__init__" (defArgs (inClass (topS 3) 0)) (defBody (inClass (topS 3) 0)) (defScope (inClass (topS 3) 0)) .none jk1 jc1 jp1 jn1 je1 jt1), js1⟩)
    (d1 : PySem.W.codeIn K je1 "BadWorld.__init__" = true)
    (k1 : PySem.W.keepIn K (.ref I1) = true)
    (t1 : PySem.W.typeIn K (.ref I1) = some (.type "function"))
    {nm2 q2 : Str} {N2 : Addr} {bs2 bm2 : List Value} {sn2 : List Str} {sb2 : List Value} {ab2 : Bool} {cl2 : Option Bool} {dd2 : Option Addr} {ka2 kb2 kc2 kd2 ke2 : Option Value}
    (a2 : PySem.W.nsIn K mainGlobals "BadSaying" = some (some (.ref C2)))
    (o2 : K.lookup C2 = some (excClassObj nm2 q2 C2 N2 bs2 bm2 true sn2 sb2 ab2 cl2 dd2 ka2 kb2 kc2 kd2 ke2 "ValueError.__new__"))
    (r2 : PySem.HandSPX.refsVE bm2 = true)
    (b2 : clsB K C2 ["part"] = true)
    {I2 : Addr} {jd2 jn2 : Option Addr} {js2 : Array (Option Value)} {jo2 jk2 jc2 jp2 je2 jt2 : Value}
    (i2 : PySem.W.findIn K (.ref C2) "__init__" = some (some (.ref I2)))
    (l2 : K.lookup I2 = some ⟨jo2, jd2, .func (PySem.W.fnOf "__init__" "BadSaying.__init__" (defArgs (inClass (topS 4) 0)) (defBody (inClass (topS 4) 0)) (defScope (inClass (topS 4) 0)) .none jk2 jc2 jp2 jn2 je2 jt2), js2⟩)
    (d2 : PySem.W.codeIn K je2 "BadSaying.__init__" = true)
    (k2 : PySem.W.keepIn K (.ref I2) = true)
    (t2 : PySem.W.typeIn K (.ref I2) = some (.type "function"))
    {nm3 q3 : Str} {N3 : Addr} {bs3 bm3 : List Value} {sn3 : List Str} {sb3 : List Value} {ab3 : Bool} {cl3 : Option Bool} {dd3 : Option Addr} {ka3 kb3 kc3 kd3 ke3 : Option Value}
    (a3 : PySem.W.nsIn K mainGlobals "BadBook" = some (some (.ref C3)))
    (o3 : K.lookup C3 = some (excClassObj nm3 q3 C3 N3 bs3 bm3 true sn3 sb3 ab3 cl3 dd3 ka3 kb3 kc3 kd3 ke3 "ValueError.__new__"))
    (r3 : PySem.HandSPX.refsVE bm3 = true)
    (b3 : clsB K C3 ["part"] = true)
    {I3 : Addr} {jd3 jn3 : Option Addr} {js3 : Array (Option Value)} {jo3 jk3 jc3 jp3 je3 jt3 : Value}
    (i3 : PySem.W.findIn K (.ref C3) "__init__" = some (some (.ref I3)))
    (l3 : K.lookup I3 = some ⟨jo3, jd3, .func (PySem.W.fnOf "__init__" "BadBook.__init__" (defArgs (inClass (topS 5) 0)) (defBody (inClass (topS 5) 0)) (defScope (inClass (topS 5) 0)) .none jk3 jc3 jp3 jn3 je3 jt3), js3⟩)
    (d3 : PySem.W.codeIn K je3 "BadBook.__init__" = true)
    (k3 : PySem.W.keepIn K (.ref I3) = true)
    (t3 : PySem.W.typeIn K (.ref I3) = some (.type "function"))
    {nm4 q4 : Str} {N4 : Addr} {bs4 bm4 : List Value} {sn4 : List Str} {sb4 : List Value} {ab4 : Bool} {cl4 : Option Bool} {dd4 : Option Addr} {ka4 kb4 kc4 kd4 ke4 : Option Value}
    (a4 : PySem.W.nsIn K mainGlobals "BadMap" = some (some (.ref C4)))
    (o4 : K.lookup C4 = some (excClassObj nm4 q4 C4 N4 bs4 bm4 true sn4 sb4 ab4 cl4 dd4 ka4 kb4 kc4 kd4 ke4 "ValueError.__new__"))
    (r4 : PySem.HandSPX.refsVE bm4 = true)
    (b4 : clsB K C4 ["part"] = true)
    {I4 : Addr} {jd4 jn4 : Option Addr} {js4 : Array (Option Value)} {jo4 jk4 jc4 jp4 je4 jt4 : Value}
    (i4 : PySem.W.findIn K (.ref C4) "__init__" = some (some (.ref I4)))
    (l4 : K.lookup I4 = some ⟨jo4, jd4, .func (PySem.W.fnOf "__init__" "BadMap.__init__" (defArgs (inClass (topS 6) 0)) (defBody (inClass (topS 6) 0)) (defScope (inClass (topS 6) 0)) .none jk4 jc4 jp4 jn4 je4 jt4), js4⟩)
    (d4 : PySem.W.codeIn K je4 "BadMap.__init__" = true)
    (k4 : PySem.W.keepIn K (.ref I4) = true)
    (t4 : PySem.W.typeIn K (.ref I4) = some (.type "function"))
    {nm5 q5 : Str} {N5 : Addr} {bs5 bm5 : List Value} {sn5 : List Str} {sb5 : List Value} {ab5 : Bool} {cl5 : Option Bool} {dd5 : Option Addr} {ka5 kb5 kc5 kd5 ke5 : Option Value}
    (a5 : PySem.W.nsIn K mainGlobals "BadWord" = some (some (.ref C5)))
    (o5 : K.lookup C5 = some (excClassObj nm5 q5 C5 N5 bs5 bm5 true sn5 sb5 ab5 cl5 dd5 ka5 kb5 kc5 kd5 ke5 "ValueError.__new__"))
    (r5 : PySem.HandSPX.refsVE bm5 = true)
    (b5 : clsB K C5 ["part"] = true)
    {I5 : Addr} {jd5 jn5 : Option Addr} {js5 : Array (Option Value)} {jo5 jk5 jc5 jp5 je5 jt5 : Value}
    (i5 : PySem.W.findIn K (.ref C5) "__init__" = some (some (.ref I5)))
    (l5 : K.lookup I5 = some ⟨jo5, jd5, .func (PySem.W.fnOf "__init__" "BadWord.__init__" (defArgs (inClass (topS 7) 0)) (defBody (inClass (topS 7) 0)) (defScope (inClass (topS 7) 0)) .none jk5 jc5 jp5 jn5 je5 jt5), js5⟩)
    (d5 : PySem.W.codeIn K je5 "BadWord.__init__" = true)
    (k5 : PySem.W.keepIn K (.ref I5) = true)
    (t5 : PySem.W.typeIn K (.ref I5) = some (.type "function"))
    {nm6 q6 : Str} {N6 : Addr} {bs6 bm6 : List Value} {sn6 : List Str} {sb6 : List Value} {ab6 : Bool} {cl6 : Option Bool} {dd6 : Option Addr} {ka6 kb6 kc6 kd6 ke6 : Option Value}
    (a6 : PySem.W.nsIn K mainGlobals "BadSize" = some (some (.ref C6)))
    (o6 : K.lookup C6 = some (excClassObj nm6 q6 C6 N6 bs6 bm6 true sn6 sb6 ab6 cl6 dd6 ka6 kb6 kc6 kd6 ke6 "ValueError.__new__"))
    (r6 : PySem.HandSPX.refsVE bm6 = true)
    (b6 : clsB K C6 ["part"] = true)
    {I6 : Addr} {jd6 jn6 : Option Addr} {js6 : Array (Option Value)} {jo6 jk6 jc6 jp6 je6 jt6 : Value}
    (i6 : PySem.W.findIn K (.ref C6) "__init__" = some (some (.ref I6)))
    (l6 : K.lookup I6 = some ⟨jo6, jd6, .func (PySem.W.fnOf "__init__" "BadSize.__init__" (defArgs (inClass (topS 8) 0)) (defBody (inClass (topS 8) 0)) (defScope (inClass (topS 8) 0)) .none jk6 jc6 jp6 jn6 je6 jt6), js6⟩)
    (d6 : PySem.W.codeIn K je6 "BadSize.__init__" = true)
    (k6 : PySem.W.keepIn K (.ref I6) = true)
    (t6 : PySem.W.typeIn K (.ref I6) = some (.type "function"))
    {nm7 q7 : Str} {N7 : Addr} {bs7 bm7 : List Value} {sn7 : List Str} {sb7 : List Value} {ab7 : Bool} {cl7 : Option Bool} {dd7 : Option Addr} {ka7 kb7 kc7 kd7 ke7 : Option Value}
    (a7 : PySem.W.nsIn K mainGlobals "BadLimit" = some (some (.ref C7)))
    (o7 : K.lookup C7 = some (excClassObj nm7 q7 C7 N7 bs7 bm7 true sn7 sb7 ab7 cl7 dd7 ka7 kb7 kc7 kd7 ke7 "ValueError.__new__"))
    (r7 : PySem.HandSPX.refsVE bm7 = true)
    (b7 : clsB K C7 ["part"] = true)
    {I7 : Addr} {jd7 jn7 : Option Addr} {js7 : Array (Option Value)} {jo7 jk7 jc7 jp7 je7 jt7 : Value}
    (i7 : PySem.W.findIn K (.ref C7) "__init__" = some (some (.ref I7)))
    (l7 : K.lookup I7 = some ⟨jo7, jd7, .func (PySem.W.fnOf "__init__" "BadLimit.__init__" (defArgs (inClass (topS 9) 0)) (defBody (inClass (topS 9) 0)) (defScope (inClass (topS 9) 0)) .none jk7 jc7 jp7 jn7 je7 jt7), js7⟩)
    (d7 : PySem.W.codeIn K je7 "BadLimit.__init__" = true)
    (k7 : PySem.W.keepIn K (.ref I7) = true)
    (t7 : PySem.W.typeIn K (.ref I7) = some (.type "function"))
    {nm8 q8 : Str} {N8 : Addr} {bs8 bm8 : List Value} {sn8 : List Str} {sb8 : List Value} {ab8 : Bool} {cl8 : Option Bool} {dd8 : Option Addr} {ka8 kb8 kc8 kd8 ke8 : Option Value}
    (a8 : PySem.W.nsIn K mainGlobals "BadFilm" = some (some (.ref C8)))
    (o8 : K.lookup C8 = some (excClassObj nm8 q8 C8 N8 bs8 bm8 true sn8 sb8 ab8 cl8 dd8 ka8 kb8 kc8 kd8 ke8 "ValueError.__new__"))
    (r8 : PySem.HandSPX.refsVE bm8 = true)
    (b8 : clsB K C8 ["part"] = true)
    {I8 : Addr} {jd8 jn8 : Option Addr} {js8 : Array (Option Value)} {jo8 jk8 jc8 jp8 je8 jt8 : Value}
    (i8 : PySem.W.findIn K (.ref C8) "__init__" = some (some (.ref I8)))
    (l8 : K.lookup I8 = some ⟨jo8, jd8, .func (PySem.W.fnOf "__init__" "BadFilm.__init__" (defArgs (inClass (topS 10) 0)) (defBody (inClass (topS 10) 0)) (defScope (inClass (topS 10) 0)) .none jk8 jc8 jp8 jn8 je8 jt8), js8⟩)
    (d8 : PySem.W.codeIn K je8 "BadFilm.__init__" = true)
    (k8 : PySem.W.keepIn K (.ref I8) = true)
    (t8 : PySem.W.typeIn K (.ref I8) = some (.type "function"))
    {nm9 q9 : Str} {N9 : Addr} {bs9 bm9 : List Value} {sn9 : List Str} {sb9 : List Value} {ab9 : Bool} {cl9 : Option Bool} {dd9 : Option Addr} {ka9 kb9 kc9 kd9 ke9 : Option Value}
    (a9 : PySem.W.nsIn K mainGlobals "BadNumber" = some (some (.ref C9)))
    (o9 : K.lookup C9 = some (excClassObj nm9 q9 C9 N9 bs9 bm9 true sn9 sb9 ab9 cl9 dd9 ka9 kb9 kc9 kd9 ke9 "ValueError.__new__"))
    (r9 : PySem.HandSPX.refsVE bm9 = true)
    (b9 : clsB K C9 ["part"] = true)
    {I9 : Addr} {jd9 jn9 : Option Addr} {js9 : Array (Option Value)} {jo9 jk9 jc9 jp9 je9 jt9 : Value}
    (i9 : PySem.W.findIn K (.ref C9) "__init__" = some (some (.ref I9)))
    (l9 : K.lookup I9 = some ⟨jo9, jd9, .func (PySem.W.fnOf "__init__" "BadNumber.__init__" (defArgs (inClass (topS 11) 0)) (defBody (inClass (topS 11) 0)) (defScope (inClass (topS 11) 0)) .none jk9 jc9 jp9 jn9 je9 jt9), js9⟩)
    (d9 : PySem.W.codeIn K je9 "BadNumber.__init__" = true)
    (k9 : PySem.W.keepIn K (.ref I9) = true)
    (t9 : PySem.W.typeIn K (.ref I9) = some (.type "function"))
    {nm10 q10 : Str} {N10 : Addr} {bs10 bm10 : List Value} {sn10 : List Str} {sb10 : List Value} {ab10 : Bool} {cl10 : Option Bool} {dd10 : Option Addr} {ka10 kb10 kc10 kd10 ke10 : Option Value}
    (a10 : PySem.W.nsIn K mainGlobals "BadPaper" = some (some (.ref C10)))
    (o10 : K.lookup C10 = some (excClassObj nm10 q10 C10 N10 bs10 bm10 true sn10 sb10 ab10 cl10 dd10 ka10 kb10 kc10 kd10 ke10 "ValueError.__new__"))
    (r10 : PySem.HandSPX.refsVE bm10 = true)
    (b10 : clsB K C10 ["part"] = true)
    {I10 : Addr} {jd10 jn10 : Option Addr} {js10 : Array (Option Value)} {jo10 jk10 jc10 jp10 je10 jt10 : Value}
    (i10 : PySem.W.findIn K (.ref C10) "__init__" = some (some (.ref I10)))
    (l10 : K.lookup I10 = some ⟨jo10, jd10, .func (PySem.W.fnOf "__init__" "BadPaper.__init__" (defArgs (inClass (topS 12) 0)) (defBody (inClass (topS 12) 0)) (defScope (inClass (topS 12) 0)) .none jk10 jc10 jp10 jn10 je10 jt10), js10⟩)
    (d10 : PySem.W.codeIn K je10 "BadPaper.__init__" = true)
    (k10 : PySem.W.keepIn K (.ref I10) = true)
    (t10 : PySem.W.typeIn K (.ref I10) = some (.type "function"))
    {nm11 q11 : Str} {N11 : Addr} {bs11 bm11 : List Value} {sn11 : List Str} {sb11 : List Value} {ab11 : Bool} {cl11 : Option Bool} {dd11 : Option Addr} {ka11 kb11 kc11 kd11 ke11 : Option Value}
    (a11 : PySem.W.nsIn K mainGlobals "BadDesk" = some (some (.ref C11)))
    (o11 : K.lookup C11 = some (excClassObj nm11 q11 C11 N11 bs11 bm11 true sn11 sb11 ab11 cl11 dd11 ka11 kb11 kc11 kd11 ke11 "ValueError.__new__"))
    (r11 : PySem.HandSPX.refsVE bm11 = true)
    (b11 : clsB K C11 ["part"] = true)
    {I11 : Addr} {jd11 jn11 : Option Addr} {js11 : Array (Option Value)} {jo11 jk11 jc11 jp11 je11 jt11 : Value}
    (i11 : PySem.W.findIn K (.ref C11) "__init__" = some (some (.ref I11)))
    (l11 : K.lookup I11 = some ⟨jo11, jd11, .func (PySem.W.fnOf "__init__" "BadDesk.__init__" (defArgs (inClass (topS 13) 0)) (defBody (inClass (topS 13) 0)) (defScope (inClass (topS 13) 0)) .none jk11 jc11 jp11 jn11 je11 jt11), js11⟩)
    (d11 : PySem.W.codeIn K je11 "BadDesk.__init__" = true)
    (k11 : PySem.W.keepIn K (.ref I11) = true)
    (t11 : PySem.W.typeIn K (.ref I11) = some (.type "function"))
    {nm12 q12 : Str} {N12 : Addr} {bs12 bm12 : List Value} {sn12 : List Str} {sb12 : List Value} {ab12 : Bool} {cl12 : Option Bool} {dd12 : Option Addr} {ka12 kb12 kc12 kd12 ke12 : Option Value}
    (a12 : PySem.W.nsIn K mainGlobals "Misfit" = some (some (.ref C12)))
    (o12 : K.lookup C12 = some (excClassObj nm12 q12 C12 N12 bs12 bm12 true sn12 sb12 ab12 cl12 dd12 ka12 kb12 kc12 kd12 ke12 "ValueError.__new__"))
    (r12 : PySem.HandSPX.refsVE bm12 = true)
    (b12 : clsB K C12 ["part"] = true)
    {I12 : Addr} {jd12 jn12 : Option Addr} {js12 : Array (Option Value)} {jo12 jk12 jc12 jp12 je12 jt12 : Value}
    (i12 : PySem.W.findIn K (.ref C12) "__init__" = some (some (.ref I12)))
    (l12 : K.lookup I12 = some ⟨jo12, jd12, .func (PySem.W.fnOf "__init__" "Misfit.__init__" (defArgs (inClass (topS 14) 0)) (defBody (inClass (topS 14) 0)) (defScope (inClass (topS 14) 0)) .none jk12 jc12 jp12 jn12 je12 jt12), js12⟩)
    (d12 : PySem.W.codeIn K je12 "Misfit.__init__" = true)
    (k12 : PySem.W.keepIn K (.ref I12) = true)
    (t12 : PySem.W.typeIn K (.ref I12) = some (.type "function"))
    {nm13 q13 : Str} {N13 : Addr} {bs13 bm13 : List Value} {sn13 : List Str} {sb13 : List Value} {ab13 : Bool} {cl13 : Option Bool} {dd13 : Option Addr} {ka13 kb13 kc13 kd13 ke13 : Option Value}
    (a13 : PySem.W.nsIn K mainGlobals "NoLand" = some (some (.ref C13)))
    (o13 : K.lookup C13 = some (excClassObj nm13 q13 C13 N13 bs13 bm13 true sn13 sb13 ab13 cl13 dd13 ka13 kb13 kc13 kd13 ke13 "ValueError.__new__"))
    (r13 : PySem.HandSPX.refsVE bm13 = true)
    (b13 : clsB K C13 ["value"] = true)
    {I13 : Addr} {jd13 jn13 : Option Addr} {js13 : Array (Option Value)} {jo13 jk13 jc13 jp13 je13 jt13 : Value}
    (i13 : PySem.W.findIn K (.ref C13) "__init__" = some (some (.ref I13)))
    (l13 : K.lookup I13 = some ⟨jo13, jd13, .func (PySem.W.fnOf "__init__" "Missing.__init__" (defArgs (inClass (topS 15) 0)) (defBody (inClass (topS 15) 0)) (defScope (inClass (topS 15) 0)) .none jk13 jc13 jp13 jn13 je13 jt13), js13⟩)
    (d13 : PySem.W.codeIn K je13 "Missing.__init__" = true)
    (k13 : PySem.W.keepIn K (.ref I13) = true)
    (t13 : PySem.W.typeIn K (.ref I13) = some (.type "function"))
    {nm14 q14 : Str} {N14 : Addr} {bs14 bm14 : List Value} {sn14 : List Str} {sb14 : List Value} {ab14 : Bool} {cl14 : Option Bool} {dd14 : Option Addr} {ka14 kb14 kc14 kd14 ke14 : Option Value}
    (a14 : PySem.W.nsIn K mainGlobals "NoSaying" = some (some (.ref C14)))
    (o14 : K.lookup C14 = some (excClassObj nm14 q14 C14 N14 bs14 bm14 true sn14 sb14 ab14 cl14 dd14 ka14 kb14 kc14 kd14 ke14 "ValueError.__new__"))
    (r14 : PySem.HandSPX.refsVE bm14 = true)
    (b14 : clsB K C14 ["value"] = true)
    {I14 : Addr} {jd14 jn14 : Option Addr} {js14 : Array (Option Value)} {jo14 jk14 jc14 jp14 je14 jt14 : Value}
    (i14 : PySem.W.findIn K (.ref C14) "__init__" = some (some (.ref I14)))
    (l14 : K.lookup I14 = some ⟨jo14, jd14, .func (PySem.W.fnOf "__init__" "Missing.__init__" (defArgs (inClass (topS 15) 0)) (defBody (inClass (topS 15) 0)) (defScope (inClass (topS 15) 0)) .none jk14 jc14 jp14 jn14 je14 jt14), js14⟩)
    (d14 : PySem.W.codeIn K je14 "Missing.__init__" = true)
    (k14 : PySem.W.keepIn K (.ref I14) = true)
    (t14 : PySem.W.typeIn K (.ref I14) = some (.type "function"))
    {nm15 q15 : Str} {N15 : Addr} {bs15 bm15 : List Value} {sn15 : List Str} {sb15 : List Value} {ab15 : Bool} {cl15 : Option Bool} {dd15 : Option Addr} {ka15 kb15 kc15 kd15 ke15 : Option Value}
    (a15 : PySem.W.nsIn K mainGlobals "NoName" = some (some (.ref C15)))
    (o15 : K.lookup C15 = some (excClassObj nm15 q15 C15 N15 bs15 bm15 true sn15 sb15 ab15 cl15 dd15 ka15 kb15 kc15 kd15 ke15 "ValueError.__new__"))
    (r15 : PySem.HandSPX.refsVE bm15 = true)
    (b15 : clsB K C15 ["value"] = true)
    {I15 : Addr} {jd15 jn15 : Option Addr} {js15 : Array (Option Value)} {jo15 jk15 jc15 jp15 je15 jt15 : Value}
    (i15 : PySem.W.findIn K (.ref C15) "__init__" = some (some (.ref I15)))
    (l15 : K.lookup I15 = some ⟨jo15, jd15, .func (PySem.W.fnOf "__init__" "Missing.__init__" (defArgs (inClass (topS 15) 0)) (defBody (inClass (topS 15) 0)) (defScope (inClass (topS 15) 0)) .none jk15 jc15 jp15 jn15 je15 jt15), js15⟩)
    (d15 : PySem.W.codeIn K je15 "Missing.__init__" = true)
    (k15 : PySem.W.keepIn K (.ref I15) = true)
    (t15 : PySem.W.typeIn K (.ref I15) = some (.type "function"))
    {nm16 q16 : Str} {N16 : Addr} {bs16 bm16 : List Value} {sn16 : List Str} {sb16 : List Value} {ab16 : Bool} {cl16 : Option Bool} {dd16 : Option Addr} {ka16 kb16 kc16 kd16 ke16 : Option Value}
    (a16 : PySem.W.nsIn K mainGlobals "Missing" = some (some (.ref C16)))
    (o16 : K.lookup C16 = some (excClassObj nm16 q16 C16 N16 bs16 bm16 true sn16 sb16 ab16 cl16 dd16 ka16 kb16 kc16 kd16 ke16 "ValueError.__new__"))
    (r16 : PySem.HandSPX.refsVE bm16 = true)
    (b16 : clsB K C16 ["value"] = true)
    {I16 : Addr} {jd16 jn16 : Option Addr} {js16 : Array (Option Value)} {jo16 jk16 jc16 jp16 je16 jt16 : Value}
    (i16 : PySem.W.findIn K (.ref C16) "__init__" = some (some (.ref I16)))
    (l16 : K.lookup I16 = some ⟨jo16, jd16, .func (PySem.W.fnOf "__init__" "Missing.__init__" (defArgs (inClass (topS 15) 0)) (defBody (inClass (topS 15) 0)) (defScope (inClass (topS 15) 0)) .none jk16 jc16 jp16 jn16 je16 jt16), js16⟩)
    (d16 : PySem.W.codeIn K je16 "Missing.__init__" = true)
    (k16 : PySem.W.keepIn K (.ref I16) = true)
    (t16 : PySem.W.typeIn K (.ref I16) = some (.type "function"))
    {nm17 q17 : Str} {N17 : Addr} {bs17 bm17 : List Value} {sn17 : List Str} {sb17 : List Value} {ab17 : Bool} {cl17 : Option Bool} {dd17 : Option Addr} {ka17 kb17 kc17 kd17 ke17 : Option Value}
    (a17 : PySem.W.nsIn K mainGlobals "Twice" = some (some (.ref C17)))
    (o17 : K.lookup C17 = some (excClassObj nm17 q17 C17 N17 bs17 bm17 true sn17 sb17 ab17 cl17 dd17 ka17 kb17 kc17 kd17 ke17 "ValueError.__new__"))
    (r17 : PySem.HandSPX.refsVE bm17 = true)
    (b17 : clsB K C17 ["value"] = true)
    {I17 : Addr} {jd17 jn17 : Option Addr} {js17 : Array (Option Value)} {jo17 jk17 jc17 jp17 je17 jt17 : Value}
    (i17 : PySem.W.findIn K (.ref C17) "__init__" = some (some (.ref I17)))
    (l17 : K.lookup I17 = some ⟨jo17, jd17, .func (PySem.W.fnOf "__init__" "Twice.__init__" (defArgs (inClass (topS 19) 0)) (defBody (inClass (topS 19) 0)) (defScope (inClass (topS 19) 0)) .none jk17 jc17 jp17 jn17 je17 jt17), js17⟩)
    (d17 : PySem.W.codeIn K je17 "Twice.__init__" = true)
    (k17 : PySem.W.keepIn K (.ref I17) = true)
    (t17 : PySem.W.typeIn K (.ref I17) = some (.type "function"))
    {nm18 q18 : Str} {N18 : Addr} {bs18 bm18 : List Value} {sn18 : List Str} {sb18 : List Value} {ab18 : Bool} {cl18 : Option Bool} {dd18 : Option Addr} {ka18 kb18 kc18 kd18 ke18 : Option Value}
    (a18 : PySem.W.nsIn K mainGlobals "Impossible" = some (some (.ref C18)))
    (o18 : K.lookup C18 = some (excClassObj nm18 q18 C18 N18 bs18 bm18 true sn18 sb18 ab18 cl18 dd18 ka18 kb18 kc18 kd18 ke18 "ValueError.__new__"))
    (r18 : PySem.HandSPX.refsVE bm18 = true)
    (b18 : clsB K C18 ["paper"] = true)
    {I18 : Addr} {jd18 jn18 : Option Addr} {js18 : Array (Option Value)} {jo18 jk18 jc18 jp18 je18 jt18 : Value}
    (i18 : PySem.W.findIn K (.ref C18) "__init__" = some (some (.ref I18)))
    (l18 : K.lookup I18 = some ⟨jo18, jd18, .func (PySem.W.fnOf "__init__" "Impossible.__init__" (defArgs (inClass (topS 20) 0)) (defBody (inClass (topS 20) 0)) (defScope (inClass (topS 20) 0)) .none jk18 jc18 jp18 jn18 je18 jt18), js18⟩)
    (d18 : PySem.W.codeIn K je18 "Impossible.__init__" = true)
    (k18 : PySem.W.keepIn K (.ref I18) = true)
    (t18 : PySem.W.typeIn K (.ref I18) = some (.type "function"))
    {nm19 q19 : Str} {N19 : Addr} {bs19 bm19 : List Value} {sn19 : List Str} {sb19 : List Value} {ab19 : Bool} {cl19 : Option Bool} {dd19 : Option Addr} {ka19 kb19 kc19 kd19 ke19 : Option Value}
    (a19 : PySem.W.nsIn K mainGlobals "TooMany" = some (some (.ref C19)))
    (o19 : K.lookup C19 = some (excClassObj nm19 q19 C19 N19 bs19 bm19 true sn19 sb19 ab19 cl19 dd19 ka19 kb19 kc19 kd19 ke19 "ValueError.__new__"))
    (r19 : PySem.HandSPX.refsVE bm19 = true)
    (b19 : clsB K C19 ["what", "most"] = true)
    {I19 : Addr} {jd19 jn19 : Option Addr} {js19 : Array (Option Value)} {jo19 jk19 jc19 jp19 je19 jt19 : Value}
    (i19 : PySem.W.findIn K (.ref C19) "__init__" = some (some (.ref I19)))
    (l19 : K.lookup I19 = some ⟨jo19, jd19, .func (PySem.W.fnOf "__init__" "TooMany.__init__" (defArgs (inClass (topS 21) 0)) (defBody (inClass (topS 21) 0)) (defScope (inClass (topS 21) 0)) .none jk19 jc19 jp19 jn19 je19 jt19), js19⟩)
    (d19 : PySem.W.codeIn K je19 "TooMany.__init__" = true)
    (k19 : PySem.W.keepIn K (.ref I19) = true)
    (t19 : PySem.W.typeIn K (.ref I19) = some (.type "function"))
    {nm20 q20 : Str} {N20 : Addr} {bs20 bm20 : List Value} {sn20 : List Str} {sb20 : List Value} {ab20 : Bool} {cl20 : Option Bool} {dd20 : Option Addr} {ka20 kb20 kc20 kd20 ke20 : Option Value}
    (a20 : PySem.W.nsIn K mainGlobals "Nothing" = some (some (.ref C20)))
    (o20 : K.lookup C20 = some (excClassObj nm20 q20 C20 N20 bs20 bm20 true sn20 sb20 ab20 cl20 dd20 ka20 kb20 kc20 kd20 ke20 "ValueError.__new__"))
    (r20 : PySem.HandSPX.refsVE bm20 = true)
    (b20 : clsB K C20 [] = true)
    {nm21 q21 : Str} {N21 : Addr} {bs21 bm21 : List Value} {sn21 : List Str} {sb21 : List Value} {ab21 : Bool} {cl21 : Option Bool} {dd21 : Option Addr} {ka21 kb21 kc21 kd21 ke21 : Option Value}
    (a21 : PySem.W.nsIn K mainGlobals "BadText" = some (some (.ref C21)))
    (o21 : K.lookup C21 = some (excClassObj nm21 q21 C21 N21 bs21 bm21 true sn21 sb21 ab21 cl21 dd21 ka21 kb21 kc21 kd21 ke21 "ValueError.__new__"))
    (r21 : PySem.HandSPX.refsVE bm21 = true)
    (b21 : clsB K C21 ["line", "item"] = true)
    {I21 : Addr} {jd21 jn21 : Option Addr} {js21 : Array (Option Value)} {jo21 jk21 jc21 jp21 je21 jt21 : Value}
    (i21 : PySem.W.findIn K (.ref C21) "__init__" = some (some (.ref I21)))
    (l21 : K.lookup I21 = some ⟨jo21, jd21, .func (PySem.W.fnOf "__init__" "BadText.__init__" (defArgs (inClass (topS 23) 0)) (defBody (inClass (topS 23) 0)) (defScope (inClass (topS 23) 0)) .none jk21 jc21 jp21 jn21 je21 jt21), js21⟩)
    (d21 : PySem.W.codeIn K je21 "BadText.__init__" = true)
    (k21 : PySem.W.keepIn K (.ref I21) = true)
    (t21 : PySem.W.typeIn K (.ref I21) = some (.type "function"))
    {nm22 q22 : Str} {N22 : Addr} {bs22 bm22 : List Value} {sn22 : List Str} {sb22 : List Value} {ab22 : Bool} {cl22 : Option Bool} {dd22 : Option Addr} {ka22 kb22 kc22 kd22 ke22 : Option Value}
    (a22 : PySem.W.nsIn K mainGlobals "BadLine" = some (some (.ref C22)))
    (o22 : K.lookup C22 = some (excClassObj nm22 q22 C22 N22 bs22 bm22 true sn22 sb22 ab22 cl22 dd22 ka22 kb22 kc22 kd22 ke22 "ValueError.__new__"))
    (r22 : PySem.HandSPX.refsVE bm22 = true)
    (b22 : clsB K C22 ["line", "error"] = true)
    {I22 : Addr} {jd22 jn22 : Option Addr} {js22 : Array (Option Value)} {jo22 jk22 jc22 jp22 je22 jt22 : Value}
    (i22 : PySem.W.findIn K (.ref C22) "__init__" = some (some (.ref I22)))
    (l22 : K.lookup I22 = some ⟨jo22, jd22, .func (PySem.W.fnOf "__init__" "BadLine.__init__" (defArgs (inClass (topS 24) 0)) (defBody (inClass (topS 24) 0)) (defScope (inClass (topS 24) 0)) .none jk22 jc22 jp22 jn22 je22 jt22), js22⟩)
    (d22 : PySem.W.codeIn K je22 "BadLine.__init__" = true)
    (k22 : PySem.W.keepIn K (.ref I22) = true)
    (t22 : PySem.W.typeIn K (.ref I22) = some (.type "function"))
    (aW : PySem.W.nsIn K mainGlobals "WordsError" = some (some (.ref CW)))
    (x20 : PySem.W.excIn K C20 [.type "ValueError", .type "Exception", .type "BaseException", .type "object"] "ValueError.__new__" = true)
    (hn : PySem.W.specialIn K (.builtin "object.__class__") "__get__" = some (some (.builtin "getset_descriptor.__get__")))
    (ht : PySem.W.takesIn K (.builtin "object.__class__") = some true)
    (kits : kitsB K [C0, C1, C2, C3, C4, C5, C6, C7, C8, C9, C10, C11, C12, C13, C14, C15, C16, C17, C18, C19, C20, C21, C22] CW = true)
    (z_int : PySem.W.nsIn K mainGlobals "int" = some none)
    (z_len : PySem.W.nsIn K mainGlobals "len" = some none)
    (z_abs : PySem.W.nsIn K mainGlobals "abs" = some none)
    (z_str : PySem.W.nsIn K mainGlobals "str" = some none)
    (z_range : PySem.W.nsIn K mainGlobals "range" = some none)
    (z_isinstance : PySem.W.nsIn K mainGlobals "isinstance" = some none)
    (z_ValueError : PySem.W.nsIn K mainGlobals "ValueError" = some none)
    (z_KeyError : PySem.W.nsIn K mainGlobals "KeyError" = some none)
    (z_IndexError : PySem.W.nsIn K mainGlobals "IndexError" = some none)
    (z_TypeError : PySem.W.nsIn K mainGlobals "TypeError" = some none)
    (z_ArithmeticError : PySem.W.nsIn K mainGlobals "ArithmeticError" = some none)
    (z_RuntimeError : PySem.W.nsIn K mainGlobals "RuntimeError" = some none)
    (z_AttributeError : PySem.W.nsIn K mainGlobals "AttributeError" = some none)
    {f0 : Addr} {vd0 vn0 : Option Addr} {vs0 : Array (Option Value)} {vo0 vk0 vc0 vp0 ve0 vt0 : Value}
    (fa0 : PySem.W.nsIn K mainGlobals "_law_store" = some (some (.ref f0)))
    (fl0 : K.lookup f0 = some ⟨vo0, vd0, .func (PySem.W.fnOf "_law_store" "_law_store" (defArgs (topS 26)) (defBody (topS 26)) (defScope (topS 26)) .none vk0 vc0 vp0 vn0 ve0 vt0), vs0⟩)
    (fc0 : PySem.W.codeIn K ve0 "_law_store" = true)
    (fk0 : PySem.W.keepIn K (.ref f0) = true)
    {f1 : Addr} {vd1 vn1 : Option Addr} {vs1 : Array (Option Value)} {vo1 vk1 vc1 vp1 ve1 vt1 : Value}
    (fa1 : PySem.W.nsIn K mainGlobals "_law_next" = some (some (.ref f1)))
    (fl1 : K.lookup f1 = some ⟨vo1, vd1, .func (PySem.W.fnOf "_law_next" "_law_next" (defArgs (topS 27)) (defBody (topS 27)) (defScope (topS 27)) .none vk1 vc1 vp1 vn1 ve1 vt1), vs1⟩)
    (fc1 : PySem.W.codeIn K ve1 "_law_next" = true)
    (fk1 : PySem.W.keepIn K (.ref f1) = true)
    {f2 : Addr} {vd2 vn2 : Option Addr} {vs2 : Array (Option Value)} {vo2 vk2 vc2 vp2 ve2 vt2 : Value}
    (fa2 : PySem.W.nsIn K mainGlobals "_law_field" = some (some (.ref f2)))
    (fl2 : K.lookup f2 = some ⟨vo2, vd2, .func (PySem.W.fnOf "_law_field" "_law_field" (defArgs (topS 28)) (defBody (topS 28)) (defScope (topS 28)) .none vk2 vc2 vp2 vn2 ve2 vt2), vs2⟩)
    (fc2 : PySem.W.codeIn K ve2 "_law_field" = true)
    (fk2 : PySem.W.keepIn K (.ref f2) = true)
    {f3 : Addr} {vd3 vn3 : Option Addr} {vs3 : Array (Option Value)} {vo3 vk3 vc3 vp3 ve3 vt3 : Value}
    (fa3 : PySem.W.nsIn K mainGlobals "_law_with_parts" = some (some (.ref f3)))
    (fl3 : K.lookup f3 = some ⟨vo3, vd3, .func (PySem.W.fnOf "_law_with_parts" "_law_with_parts" (defArgs (topS 29)) (defBody (topS 29)) (defScope (topS 29)) .none vk3 vc3 vp3 vn3 ve3 vt3), vs3⟩)
    (fc3 : PySem.W.codeIn K ve3 "_law_with_parts" = true)
    (fk3 : PySem.W.keepIn K (.ref f3) = true)
    {f4 : Addr} {vd4 vn4 : Option Addr} {vs4 : Array (Option Value)} {vo4 vk4 vc4 vp4 ve4 vt4 : Value}
    (fa4 : PySem.W.nsIn K mainGlobals "_law_with_named_parts" = some (some (.ref f4)))
    (fl4 : K.lookup f4 = some ⟨vo4, vd4, .func (PySem.W.fnOf "_law_with_named_parts" "_law_with_named_parts" (defArgs (topS 30)) (defBody (topS 30)) (defScope (topS 30)) .none vk4 vc4 vp4 vn4 ve4 vt4), vs4⟩)
    (fc4 : PySem.W.codeIn K ve4 "_law_with_named_parts" = true)
    (fk4 : PySem.W.keepIn K (.ref f4) = true)
    {f5 : Addr} {vd5 vn5 : Option Addr} {vs5 : Array (Option Value)} {vo5 vk5 vc5 vp5 ve5 vt5 : Value}
    (fa5 : PySem.W.nsIn K mainGlobals "_law_with_values" = some (some (.ref f5)))
    (fl5 : K.lookup f5 = some ⟨vo5, vd5, .func (PySem.W.fnOf "_law_with_values" "_law_with_values" (defArgs (topS 31)) (defBody (topS 31)) (defScope (topS 31)) .none vk5 vc5 vp5 vn5 ve5 vt5), vs5⟩)
    (fc5 : PySem.W.codeIn K ve5 "_law_with_values" = true)
    (fk5 : PySem.W.keepIn K (.ref f5) = true)
    {f6 : Addr} {vd6 vn6 : Option Addr} {vs6 : Array (Option Value)} {vo6 vk6 vc6 vp6 ve6 vt6 : Value}
    (fa6 : PySem.W.nsIn K mainGlobals "_law_classes" = some (some (.ref f6)))
    (fl6 : K.lookup f6 = some ⟨vo6, vd6, .func (PySem.W.fnOf "_law_classes" "_law_classes" (defArgs (topS 32)) (defBody (topS 32)) (defScope (topS 32)) .none vk6 vc6 vp6 vn6 ve6 vt6), vs6⟩)
    (fc6 : PySem.W.codeIn K ve6 "_law_classes" = true)
    (fk6 : PySem.W.keepIn K (.ref f6) = true)
    {f7 : Addr} {vd7 vn7 : Option Addr} {vs7 : Array (Option Value)} {vo7 vk7 vc7 vp7 ve7 vt7 : Value}
    (fa7 : PySem.W.nsIn K mainGlobals "_law_stands" = some (some (.ref f7)))
    (fl7 : K.lookup f7 = some ⟨vo7, vd7, .func (PySem.W.fnOf "_law_stands" "_law_stands" (defArgs (topS 33)) (defBody (topS 33)) (defScope (topS 33)) .none vk7 vc7 vp7 vn7 ve7 vt7), vs7⟩)
    (fc7 : PySem.W.codeIn K ve7 "_law_stands" = true)
    (fk7 : PySem.W.keepIn K (.ref f7) = true)
    {f8 : Addr} {vd8 vn8 : Option Addr} {vs8 : Array (Option Value)} {vo8 vk8 vc8 vp8 ve8 vt8 : Value}
    (fa8 : PySem.W.nsIn K mainGlobals "_law_single_right" = some (some (.ref f8)))
    (fl8 : K.lookup f8 = some ⟨vo8, vd8, .func (PySem.W.fnOf "_law_single_right" "_law_single_right" (defArgs (topS 34)) (defBody (topS 34)) (defScope (topS 34)) .none vk8 vc8 vp8 vn8 ve8 vt8), vs8⟩)
    (fc8 : PySem.W.codeIn K ve8 "_law_single_right" = true)
    (fk8 : PySem.W.keepIn K (.ref f8) = true)
    {f9 : Addr} {vd9 vn9 : Option Addr} {vs9 : Array (Option Value)} {vo9 vk9 vc9 vp9 ve9 vt9 : Value}
    (fa9 : PySem.W.nsIn K mainGlobals "_law_others_right" = some (some (.ref f9)))
    (fl9 : K.lookup f9 = some ⟨vo9, vd9, .func (PySem.W.fnOf "_law_others_right" "_law_others_right" (defArgs (topS 35)) (defBody (topS 35)) (defScope (topS 35)) .none vk9 vc9 vp9 vn9 ve9 vt9), vs9⟩)
    (fc9 : PySem.W.codeIn K ve9 "_law_others_right" = true)
    (fk9 : PySem.W.keepIn K (.ref f9) = true)
    {f10 : Addr} {vd10 vn10 : Option Addr} {vs10 : Array (Option Value)} {vo10 vk10 vc10 vp10 ve10 vt10 : Value}
    (fa10 : PySem.W.nsIn K mainGlobals "law" = some (some (.ref f10)))
    (fl10 : K.lookup f10 = some ⟨vo10, vd10, .func (PySem.W.fnOf "law" "law" (defArgs (topS 36)) (defBody (topS 36)) (defScope (topS 36)) .none vk10 vc10 vp10 vn10 ve10 vt10), vs10⟩)
    (fc10 : PySem.W.codeIn K ve10 "law" = true)
    (fk10 : PySem.W.keepIn K (.ref f10) = true)
    : ∃ fd : FuncData, (∀ (s : Shared) (v : Value), BindsTo s fd ⟨[v], []⟩ [("_law_script", v)]) ∧ ∀ base : Heap, K.In base → base.Ns mainGlobals mg → FnOk l.prog w K mg base CX0 5 fa fd ["_law_script"] (spLaw K) := by
  have e := hfa.symm.trans (PySem.W.mg_of X G fa10)
  cases e
  refine ⟨PySem.W.fnOf "law" "law" (defArgs (topS 36)) (defBody (topS 36)) (defScope (topS 36)) .none vk10 vc10 vp10 vn10 ve10 vt10, fun s v => .of_eq rfl, fun base _ _ => ?_⟩
  have kt := kitsB_ok kits
  let cls : Nat → Addr := fun i => ([C0, C1, C2, C3, C4, C5, C6, C7, C8, C9, C10, C11, C12, C13, C14, C15, C16, C17, C18, C19, C20, C21, C22] : List Addr).getD i 0
  have B0 := clsB_ok b0
  have B1 := clsB_ok b1
  have B2 := clsB_ok b2
  have B3 := clsB_ok b3
  have B4 := clsB_ok b4
  have B5 := clsB_ok b5
  have B6 := clsB_ok b6
  have B7 := clsB_ok b7
  have B8 := clsB_ok b8
  have B9 := clsB_ok b9
  have B10 := clsB_ok b10
  have B11 := clsB_ok b11
  have B12 := clsB_ok b12
  have B13 := clsB_ok b13
  have B14 := clsB_ok b14
  have B15 := clsB_ok b15
  have B16 := clsB_ok b16
  have B17 := clsB_ok b17
  have B18 := clsB_ok b18
  have B19 := clsB_ok b19
  have B20 := clsB_ok b20
  have B21 := clsB_ok b21
  have B22 := clsB_ok b22
  have T : Txt K mg cls CW := {
    isi := PySem.W.mg_none_of X G z_isinstance, rng := PySem.W.mg_none_of X G z_range, ve := PySem.W.mg_none_of X G z_ValueError
    x0 := PySem.W.mg_none_of X G z_KeyError
    x1 := PySem.W.mg_none_of X G z_IndexError
    x2 := PySem.W.mg_none_of X G z_TypeError
    x3 := PySem.W.mg_none_of X G z_ArithmeticError
    x4 := PySem.W.mg_none_of X G z_RuntimeError
    x5 := PySem.W.mg_none_of X G z_AttributeError
    gW := PySem.W.mg_of X G aW
    g0 := PySem.W.mg_of X G a0
    g1 := PySem.W.mg_of X G a1
    g2 := PySem.W.mg_of X G a2
    g3 := PySem.W.mg_of X G a3
    g4 := PySem.W.mg_of X G a4
    g5 := PySem.W.mg_of X G a5
    g6 := PySem.W.mg_of X G a6
    g7 := PySem.W.mg_of X G a7
    g8 := PySem.W.mg_of X G a8
    g9 := PySem.W.mg_of X G a9
    g10 := PySem.W.mg_of X G a10
    g11 := PySem.W.mg_of X G a11
    g12 := PySem.W.mg_of X G a12
    g13 := PySem.W.mg_of X G a13
    g14 := PySem.W.mg_of X G a14
    g15 := PySem.W.mg_of X G a15
    g16 := PySem.W.mg_of X G a16
    g17 := PySem.W.mg_of X G a17
    g18 := PySem.W.mg_of X G a18
    g19 := PySem.W.mg_of X G a19
    g20 := PySem.W.mg_of X G a20
    g21 := PySem.W.mg_of X G a21
    g22 := PySem.W.mg_of X G a22
    S := fun i hi => by
      match i, hi with
      | 0, _ => exact B0.exc hn ht
      | 1, _ => exact B1.exc hn ht
      | 2, _ => exact B2.exc hn ht
      | 3, _ => exact B3.exc hn ht
      | 4, _ => exact B4.exc hn ht
      | 5, _ => exact B5.exc hn ht
      | 6, _ => exact B6.exc hn ht
      | 7, _ => exact B7.exc hn ht
      | 8, _ => exact B8.exc hn ht
      | 9, _ => exact B9.exc hn ht
      | 10, _ => exact B10.exc hn ht
      | 11, _ => exact B11.exc hn ht
      | 12, _ => exact B12.exc hn ht
      | 13, _ => exact B13.exc hn ht
      | 14, _ => exact B14.exc hn ht
      | 15, _ => exact B15.exc hn ht
      | 16, _ => exact B16.exc hn ht
      | 17, _ => exact B17.exc hn ht
      | 18, _ => exact B18.exc hn ht
      | 19, _ => exact B19.exc hn ht
      | 20, _ => exact B20.exc hn ht
      | 21, _ => exact B21.exc hn ht
      | 22, _ => exact B22.exc hn ht
      | n + 23, h => exact absurd h (by omega)
    kit := fun i j hi hj => (kt i hi).1 j hj
    kW := fun i hi => (kt i hi).2.1
    kV := fun i hi => (kt i hi).2.2.1
    kN := fun i hi => (kt i hi).2.2.2 }
  have M : Mks l.prog w K mg base cls := {
    c0 := e1_mk (st := (inClass (topS 2) 0)) (qual := "BadRegion.__init__") (PySem.W.mg_of X G a0) (B0.oex o0 r0) B0 i0 t0 (fun_mk (st := (inClass (topS 2) 0)) l0 d0 k0) (ok_BadRegion (fun_mk (st := (inClass (topS 2) 0)) l0 d0 k0)) (fun _ _ _ _ _ _ us hl => match us, hl with | [_, _], _ => rfl) (fun _ _ _ _ _ _ us ws h1 h2 => match us, ws, h1, h2 with | [_], [_], _, _ => rfl)
    c1 := e1_mk (st := (inClass (topS 3) 0)) (qual := "BadWorld.__init__") (PySem.W.mg_of X G a1) (B1.oex o1 r1) B1 i1 t1 (fun_mk (st := (inClass (topS 3) 0)) l1 d1 k1) (ok_BadWorld (fun_mk (st := (inClass (topS 3) 0)) l1 d1 k1)) (fun _ _ _ _ _ _ us hl => match us, hl with | [_, _], _ => rfl) (fun _ _ _ _ _ _ us ws h1 h2 => match us, ws, h1, h2 with | [_], [_], _, _ => rfl)
    c2 := e1_mk (st := (inClass (topS 4) 0)) (qual := "BadSaying.__init__") (PySem.W.mg_of X G a2) (B2.oex o2 r2) B2 i2 t2 (fun_mk (st := (inClass (topS 4) 0)) l2 d2 k2) (ok_BadSaying (fun_mk (st := (inClass (topS 4) 0)) l2 d2 k2)) (fun _ _ _ _ _ _ us hl => match us, hl with | [_, _], _ => rfl) (fun _ _ _ _ _ _ us ws h1 h2 => match us, ws, h1, h2 with | [_], [_], _, _ => rfl)
    c3 := e1_mk (st := (inClass (topS 5) 0)) (qual := "BadBook.__init__") (PySem.W.mg_of X G a3) (B3.oex o3 r3) B3 i3 t3 (fun_mk (st := (inClass (topS 5) 0)) l3 d3 k3) (ok_BadBook (fun_mk (st := (inClass (topS 5) 0)) l3 d3 k3)) (fun _ _ _ _ _ _ us hl => match us, hl with | [_, _], _ => rfl) (fun _ _ _ _ _ _ us ws h1 h2 => match us, ws, h1, h2 with | [_], [_], _, _ => rfl)
    c4 := e1_mk (st := (inClass (topS 6) 0)) (qual := "BadMap.__init__") (PySem.W.mg_of X G a4) (B4.oex o4 r4) B4 i4 t4 (fun_mk (st := (inClass (topS 6) 0)) l4 d4 k4) (ok_BadMap (fun_mk (st := (inClass (topS 6) 0)) l4 d4 k4)) (fun _ _ _ _ _ _ us hl => match us, hl with | [_, _], _ => rfl) (fun _ _ _ _ _ _ us ws h1 h2 => match us, ws, h1, h2 with | [_], [_], _, _ => rfl)
    c5 := e1_mk (st := (inClass (topS 7) 0)) (qual := "BadWord.__init__") (PySem.W.mg_of X G a5) (B5.oex o5 r5) B5 i5 t5 (fun_mk (st := (inClass (topS 7) 0)) l5 d5 k5) (ok_BadWord (fun_mk (st := (inClass (topS 7) 0)) l5 d5 k5)) (fun _ _ _ _ _ _ us hl => match us, hl with | [_, _], _ => rfl) (fun _ _ _ _ _ _ us ws h1 h2 => match us, ws, h1, h2 with | [_], [_], _, _ => rfl)
    c6 := e1_mk (st := (inClass (topS 8) 0)) (qual := "BadSize.__init__") (PySem.W.mg_of X G a6) (B6.oex o6 r6) B6 i6 t6 (fun_mk (st := (inClass (topS 8) 0)) l6 d6 k6) (ok_BadSize (fun_mk (st := (inClass (topS 8) 0)) l6 d6 k6)) (fun _ _ _ _ _ _ us hl => match us, hl with | [_, _], _ => rfl) (fun _ _ _ _ _ _ us ws h1 h2 => match us, ws, h1, h2 with | [_], [_], _, _ => rfl)
    c7 := e1_mk (st := (inClass (topS 9) 0)) (qual := "BadLimit.__init__") (PySem.W.mg_of X G a7) (B7.oex o7 r7) B7 i7 t7 (fun_mk (st := (inClass (topS 9) 0)) l7 d7 k7) (ok_BadLimit (fun_mk (st := (inClass (topS 9) 0)) l7 d7 k7)) (fun _ _ _ _ _ _ us hl => match us, hl with | [_, _], _ => rfl) (fun _ _ _ _ _ _ us ws h1 h2 => match us, ws, h1, h2 with | [_], [_], _, _ => rfl)
    c8 := e1_mk (st := (inClass (topS 10) 0)) (qual := "BadFilm.__init__") (PySem.W.mg_of X G a8) (B8.oex o8 r8) B8 i8 t8 (fun_mk (st := (inClass (topS 10) 0)) l8 d8 k8) (ok_BadFilm (fun_mk (st := (inClass (topS 10) 0)) l8 d8 k8)) (fun _ _ _ _ _ _ us hl => match us, hl with | [_, _], _ => rfl) (fun _ _ _ _ _ _ us ws h1 h2 => match us, ws, h1, h2 with | [_], [_], _, _ => rfl)
    c9 := e1_mk (st := (inClass (topS 11) 0)) (qual := "BadNumber.__init__") (PySem.W.mg_of X G a9) (B9.oex o9 r9) B9 i9 t9 (fun_mk (st := (inClass (topS 11) 0)) l9 d9 k9) (ok_BadNumber (fun_mk (st := (inClass (topS 11) 0)) l9 d9 k9)) (fun _ _ _ _ _ _ us hl => match us, hl with | [_, _], _ => rfl) (fun _ _ _ _ _ _ us ws h1 h2 => match us, ws, h1, h2 with | [_], [_], _, _ => rfl)
    c10 := e1_mk (st := (inClass (topS 12) 0)) (qual := "BadPaper.__init__") (PySem.W.mg_of X G a10) (B10.oex o10 r10) B10 i10 t10 (fun_mk (st := (inClass (topS 12) 0)) l10 d10 k10) (ok_BadPaper (fun_mk (st := (inClass (topS 12) 0)) l10 d10 k10)) (fun _ _ _ _ _ _ us hl => match us, hl with | [_, _], _ => rfl) (fun _ _ _ _ _ _ us ws h1 h2 => match us, ws, h1, h2 with | [_], [_], _, _ => rfl)
    c11 := e1_mk (st := (inClass (topS 13) 0)) (qual := "BadDesk.__init__") (PySem.W.mg_of X G a11) (B11.oex o11 r11) B11 i11 t11 (fun_mk (st := (inClass (topS 13) 0)) l11 d11 k11) (ok_BadDesk (fun_mk (st := (inClass (topS 13) 0)) l11 d11 k11)) (fun _ _ _ _ _ _ us hl => match us, hl with | [_, _], _ => rfl) (fun _ _ _ _ _ _ us ws h1 h2 => match us, ws, h1, h2 with | [_], [_], _, _ => rfl)
    c12 := e1_mk (st := (inClass (topS 14) 0)) (qual := "Misfit.__init__") (PySem.W.mg_of X G a12) (B12.oex o12 r12) B12 i12 t12 (fun_mk (st := (inClass (topS 14) 0)) l12 d12 k12) (ok_Misfit (fun_mk (st := (inClass (topS 14) 0)) l12 d12 k12)) (fun _ _ _ _ _ _ us hl => match us, hl with | [_, _], _ => rfl) (fun _ _ _ _ _ _ us ws h1 h2 => match us, ws, h1, h2 with | [_], [_], _, _ => rfl)
    c13 := e1_mk (st := (inClass (topS 15) 0)) (qual := "Missing.__init__") (PySem.W.mg_of X G a13) (B13.oex o13 r13) B13 i13 t13 (fun_mk (st := (inClass (topS 15) 0)) l13 d13 k13) (ok_Missing (fun_mk (st := (inClass (topS 15) 0)) l13 d13 k13)) (fun _ _ _ _ _ _ us hl => match us, hl with | [_, _], _ => rfl) (fun _ _ _ _ _ _ us ws h1 h2 => match us, ws, h1, h2 with | [_], [_], _, _ => rfl)
    c14 := e1_mk (st := (inClass (topS 15) 0)) (qual := "Missing.__init__") (PySem.W.mg_of X G a14) (B14.oex o14 r14) B14 i14 t14 (fun_mk (st := (inClass (topS 15) 0)) l14 d14 k14) (ok_Missing (fun_mk (st := (inClass (topS 15) 0)) l14 d14 k14)) (fun _ _ _ _ _ _ us hl => match us, hl with | [_, _], _ => rfl) (fun _ _ _ _ _ _ us ws h1 h2 => match us, ws, h1, h2 with | [_], [_], _, _ => rfl)
    c15 := e1_mk (st := (inClass (topS 15) 0)) (qual := "Missing.__init__") (PySem.W.mg_of X G a15) (B15.oex o15 r15) B15 i15 t15 (fun_mk (st := (inClass (topS 15) 0)) l15 d15 k15) (ok_Missing (fun_mk (st := (inClass (topS 15) 0)) l15 d15 k15)) (fun _ _ _ _ _ _ us hl => match us, hl with | [_, _], _ => rfl) (fun _ _ _ _ _ _ us ws h1 h2 => match us, ws, h1, h2 with | [_], [_], _, _ => rfl)
    c16 := e1_mk (st := (inClass (topS 15) 0)) (qual := "Missing.__init__") (PySem.W.mg_of X G a16) (B16.oex o16 r16) B16 i16 t16 (fun_mk (st := (inClass (topS 15) 0)) l16 d16 k16) (ok_Missing (fun_mk (st := (inClass (topS 15) 0)) l16 d16 k16)) (fun _ _ _ _ _ _ us hl => match us, hl with | [_, _], _ => rfl) (fun _ _ _ _ _ _ us ws h1 h2 => match us, ws, h1, h2 with | [_], [_], _, _ => rfl)
    c17 := e1_mk (st := (inClass (topS 19) 0)) (qual := "Twice.__init__") (PySem.W.mg_of X G a17) (B17.oex o17 r17) B17 i17 t17 (fun_mk (st := (inClass (topS 19) 0)) l17 d17 k17) (ok_Twice (fun_mk (st := (inClass (topS 19) 0)) l17 d17 k17)) (fun _ _ _ _ _ _ us hl => match us, hl with | [_, _], _ => rfl) (fun _ _ _ _ _ _ us ws h1 h2 => match us, ws, h1, h2 with | [_], [_], _, _ => rfl)
    c18 := e1_mk (st := (inClass (topS 20) 0)) (qual := "Impossible.__init__") (PySem.W.mg_of X G a18) (B18.oex o18 r18) B18 i18 t18 (fun_mk (st := (inClass (topS 20) 0)) l18 d18 k18) (ok_Impossible (fun_mk (st := (inClass (topS 20) 0)) l18 d18 k18)) (fun _ _ _ _ _ _ us hl => match us, hl with | [_, _], _ => rfl) (fun _ _ _ _ _ _ us ws h1 h2 => match us, ws, h1, h2 with | [_], [_], _, _ => rfl)
    c19 := e2_mk (st := (inClass (topS 21) 0)) (qual := "TooMany.__init__") (PySem.W.mg_of X G a19) (B19.oex o19 r19) B19 i19 t19 (fun_mk (st := (inClass (topS 21) 0)) l19 d19 k19) (ok_TooMany (fun_mk (st := (inClass (topS 21) 0)) l19 d19 k19)) (fun _ _ _ _ _ _ us hl => match us, hl with | [_, _, _], _ => rfl) (fun _ _ _ _ _ _ us ws h1 h2 => match us, ws, h1, h2 with | [_], [_, _], _, _ => rfl)
    c21 := e2_mk (st := (inClass (topS 23) 0)) (qual := "BadText.__init__") (PySem.W.mg_of X G a21) (B21.oex o21 r21) B21 i21 t21 (fun_mk (st := (inClass (topS 23) 0)) l21 d21 k21) (ok_BadText (fun_mk (st := (inClass (topS 23) 0)) l21 d21 k21)) (fun _ _ _ _ _ _ us hl => match us, hl with | [_, _, _], _ => rfl) (fun _ _ _ _ _ _ us ws h1 h2 => match us, ws, h1, h2 with | [_], [_, _], _, _ => rfl)
    c22 := e2_mk (st := (inClass (topS 24) 0)) (qual := "BadLine.__init__") (PySem.W.mg_of X G a22) (B22.oex o22 r22) B22 i22 t22 (fun_mk (st := (inClass (topS 24) 0)) l22 d22 k22) (ok_BadLine (fun_mk (st := (inClass (topS 24) 0)) l22 d22 k22)) (fun _ _ _ _ _ _ us hl => match us, hl with | [_, _, _], _ => rfl) (fun _ _ _ _ _ _ us ws h1 h2 => match us, ws, h1, h2 with | [_], [_, _], _, _ => rfl)
    g20 := PySem.W.mg_of X G a20
    x20 := x20
    k20 := B20.kp
    ne13 := B13.nes }
  have F0 := fun_mk (st := topS 26) fl0 fc0 fk0
  have u0 := F0.binds (ps := ["_law_script"]) fun _ _ _ _ _ _ us hl => match us, hl with | [_], _ => rfl
  have m0 := PySem.W.mg_of X G fa0
  have F1 := fun_mk (st := topS 27) fl1 fc1 fk1
  have u1 := F1.binds (ps := ["_law_store_here", "_law_many"]) fun _ _ _ _ _ _ us hl => match us, hl with | [_, _], _ => rfl
  have m1 := PySem.W.mg_of X G fa1
  have F2 := fun_mk (st := topS 28) fl2 fc2 fk2
  have u2 := F2.binds (ps := ["_law_store_here"]) fun _ _ _ _ _ _ us hl => match us, hl with | [_], _ => rfl
  have m2 := PySem.W.mg_of X G fa2
  have F3 := fun_mk (st := topS 29) fl3 fc3 fk3
  have u3 := F3.binds (ps := ["_law_one"]) fun _ _ _ _ _ _ us hl => match us, hl with | [_], _ => rfl
  have m3 := PySem.W.mg_of X G fa3
  have F4 := fun_mk (st := topS 30) fl4 fc4 fk4
  have u4 := F4.binds (ps := ["_law_one"]) fun _ _ _ _ _ _ us hl => match us, hl with | [_], _ => rfl
  have m4 := PySem.W.mg_of X G fa4
  have F5 := fun_mk (st := topS 31) fl5 fc5 fk5
  have u5 := F5.binds (ps := ["_law_one", "_law_is_named"]) fun _ _ _ _ _ _ us hl => match us, hl with | [_, _], _ => rfl
  have m5 := PySem.W.mg_of X G fa5
  have F6 := fun_mk (st := topS 32) fl6 fc6 fk6
  have u6 := F6.binds (ps := ["_law_error"]) fun _ _ _ _ _ _ us hl => match us, hl with | [_], _ => rfl
  have m6 := PySem.W.mg_of X G fa6
  have F7 := fun_mk (st := topS 33) fl7 fc7 fk7
  have u7 := F7.binds (ps := ["_law_error", "_law_at"]) fun _ _ _ _ _ _ us hl => match us, hl with | [_, _], _ => rfl
  have m7 := PySem.W.mg_of X G fa7
  have F8 := fun_mk (st := topS 34) fl8 fc8 fk8
  have u8 := F8.binds (ps := ["_law_one", "_law_other"]) fun _ _ _ _ _ _ us hl => match us, hl with | [_, _], _ => rfl
  have m8 := PySem.W.mg_of X G fa8
  have F9 := fun_mk (st := topS 35) fl9 fc9 fk9
  have u9 := F9.binds (ps := ["_law_one", "_law_other"]) fun _ _ _ _ _ _ us hl => match us, hl with | [_, _], _ => rfl
  have m9 := PySem.W.mg_of X G fa9
  have F10 := fun_mk (st := topS 36) fl10 fc10 fk10
  have m10 := PySem.W.mg_of X G fa10
  have G0 : FnOk l.prog w K mg base CX0 1 _ _ ["_law_script"] (spStore K) := ok_store F0 (PySem.W.mg_none_of X G z_int)
  have G1 : FnOk l.prog w K mg base CX0 1 _ _ ["_law_store_here", "_law_many"] spNext := ok_next F1 (PySem.W.mg_none_of X G z_int) (PySem.W.mg_none_of X G z_len) (PySem.W.mg_none_of X G z_abs)
  have G2 : FnOk l.prog w K mg base CX0 4 _ _ ["_law_store_here"] (spField K) := ok_field M (PySem.W.mg_none_of X G z_str) F2 G1 u1 m1 F1.kp
  have G3 : FnOk l.prog w K mg base CX0 3 _ _ ["_law_one"] (spParts cls) := ok_parts (k := 0) M F3
  have G4 : FnOk l.prog w K mg base CX0 3 _ _ ["_law_one"] (spParts cls) := ok_named (k := 0) M F4
  have G5 : FnOk l.prog w K mg base CX0 3 _ _ ["_law_one", "_law_is_named"] (spValues cls) := ok_values (k := 0) M F5
  have G6 : FnOk l.prog w K mg base CX0 1 _ _ ["_law_error"] (spClasses cls) := ok_classes (k := 0) T F6
  have G7 : FnOk l.prog w K mg base CX0 2 _ _ ["_law_error", "_law_at"] (spStands cls) := ok_stands (k := 0) T F7 G6 u6 m6 F6.kp
  have G8 : FnOk l.prog w K mg base CX0 4 _ _ ["_law_one", "_law_other"] (spPair K) := ok_single M T.rng F8 G7 u7 m7 F7.kp G3 u3 m3 F3.kp G4 u4 m4 F4.kp G5 u5 m5 F5.kp
  have G9 : FnOk l.prog w K mg base CX0 4 _ _ ["_law_one", "_law_other"] (spPair K) := ok_others M F9 G7 u7 m7 F7.kp
  exact ok_law T.rng F10 G0 u0 m0 F0.kp G2 u2 m2 F2.kp G8 u8 m8 F8.kp G9 u9 m9 F9.kp
end K00
open PySem PySem.W PyProof.Rows
set_option maxRecDepth 100000 in
set_option maxHeartbeats 0 in
theorem PySem.Challenge.cw_borderwords_k00_errors_keep_their_fields_holds : PySem.Challenge.rw_borderwords_k00_errors_keep_their_fields.Holds := by
  w_on; o_law; k_head; (case hw => w_witness2)
  k_fill
  refine L2.walk_of (l := PySem.Challenge.rw_borderwords_k00_errors_keep_their_fields) (n := 63) (k := 5) (x := "_law_script") (CX := fun _ => L2.CX0) (sp := fun w => K00.spLaw _) rfl (by decide) rfl ⟨rfl, by decide, by decide⟩ (fun w h Y => PySem.W.kIn_of Y) ?F (fun _ _ a ns hl _ hS => ⟨a, ns, rfl, hS, hl, fun _ => rfl⟩) (fun _ _ _ _ _ h => h)
  case F =>
    intro w mg fa h KX G hmg
    refine' K00.all_mk KX G hmg ?a0 ?o0 ?r0 ?b0 ?i0 ?l0 ?d0 ?k0 ?t0 ?a1 ?o1 ?r1 ?b1 ?i1 ?l1 ?d1 ?k1 ?t1 ?a2 ?o2 ?r2 ?b2 ?i2 ?l2 ?d2 ?k2 ?t2 ?a3 ?o3 ?r3 ?b3 ?i3 ?l3 ?d3 ?k3 ?t3 ?a4 ?o4 ?r4 ?b4 ?i4 ?l4 ?d4 ?k4 ?t4 ?a5 ?o5 ?r5 ?b5 ?i5 ?l5 ?d5 ?k5 ?t5 ?a6 ?o6 ?r6 ?b6 ?i6 ?l6 ?d6 ?k6 ?t6 ?a7 ?o7 ?r7 ?b7 ?i7 ?l7 ?d7 ?k7 ?t7 ?a8 ?o8 ?r8 ?b8 ?i8 ?l8 ?d8 ?k8 ?t8 ?a9 ?o9 ?r9 ?b9 ?i9 ?l9 ?d9 ?k9 ?t9 ?a10 ?o10 ?r10 ?b10 ?i10 ?l10 ?d10 ?k10 ?t10 ?a11 ?o11 ?r11 ?b11 ?i11 ?l11 ?d11 ?k11 ?t11 ?a12 ?o12 ?r12 ?b12 ?i12 ?l12 ?d12 ?k12 ?t12 ?a13 ?o13 ?r13 ?b13 ?i13 ?l13 ?d13 ?k13 ?t13 ?a14 ?o14 ?r14 ?b14 ?i14 ?l14 ?d14 ?k14 ?t14 ?a15 ?o15 ?r15 ?b15 ?i15 ?l15 ?d15 ?k15 ?t15 ?a16 ?o16 ?r16 ?b16 ?i16 ?l16 ?d16 ?k16 ?t16 ?a17 ?o17 ?r17 ?b17 ?i17 ?l17 ?d17 ?k17 ?t17 ?a18 ?o18 ?r18 ?b18 ?i18 ?l18 ?d18 ?k18 ?t18 ?a19 ?o19 ?r19 ?b19 ?i19 ?l19 ?d19 ?k19 ?t19 ?a20 ?o20 ?r20 ?b20 ?a21 ?o21 ?r21 ?b21 ?i21 ?l21 ?d21 ?k21 ?t21 ?a22 ?o22 ?r22 ?b22 ?i22 ?l22 ?d22 ?k22 ?t22 ?aW ?x20 ?hn ?ht ?kits ?z_int ?z_len ?z_abs ?z_str ?z_range ?z_isinstance ?z_ValueError ?z_KeyError ?z_IndexError ?z_TypeError ?z_ArithmeticError ?z_RuntimeError ?z_AttributeError ?fa0 ?fl0 ?fc0 ?fk0 ?fa1 ?fl1 ?fc1 ?fk1 ?fa2 ?fl2 ?fc2 ?fk2 ?fa3 ?fl3 ?fc3 ?fk3 ?fa4 ?fl4 ?fc4 ?fk4 ?fa5 ?fl5 ?fc5 ?fk5 ?fa6 ?fl6 ?fc6 ?fk6 ?fa7 ?fl7 ?fc7 ?fk7 ?fa8 ?fl8 ?fc8 ?fk8 ?fa9 ?fl9 ?fc9 ?fk9 ?fa10 ?fl10 ?fc10 ?fk10
    (case a0 => k_is)
    (case o0 => k_is)
    (case r0 => rfl)
    (case b0 => kernel_rfl!)
    (case i0 => k_is)
    (case l0 => k_is)
    (case d0 => k_is)
    (case k0 => k_is)
    (case t0 => k_is)
    (case a1 => k_is)
    (case o1 => k_is)
    (case r1 => rfl)
    (case b1 => kernel_rfl!)
    (case i1 => k_is)
    (case l1 => k_is)
    (case d1 => k_is)
    (case k1 => k_is)
    (case t1 => k_is)
    (case a2 => k_is)
    (case o2 => k_is)
    (case r2 => rfl)
    (case b2 => kernel_rfl!)
    (case i2 => k_is)
    (case l2 => k_is)
    (case d2 => k_is)
    (case k2 => k_is)
    (case t2 => k_is)
    (case a3 => k_is)
    (case o3 => k_is)
    (case r3 => rfl)
    (case b3 => kernel_rfl!)
    (case i3 => k_is)
    (case l3 => k_is)
    (case d3 => k_is)
    (case k3 => k_is)
    (case t3 => k_is)
    (case a4 => k_is)
    (case o4 => k_is)
    (case r4 => rfl)
    (case b4 => kernel_rfl!)
    (case i4 => k_is)
    (case l4 => k_is)
    (case d4 => k_is)
    (case k4 => k_is)
    (case t4 => k_is)
    (case a5 => k_is)
    (case o5 => k_is)
    (case r5 => rfl)
    (case b5 => kernel_rfl!)
    (case i5 => k_is)
    (case l5 => k_is)
    (case d5 => k_is)
    (case k5 => k_is)
    (case t5 => k_is)
    (case a6 => k_is)
    (case o6 => k_is)
    (case r6 => rfl)
    (case b6 => kernel_rfl!)
    (case i6 => k_is)
    (case l6 => k_is)
    (case d6 => k_is)
    (case k6 => k_is)
    (case t6 => k_is)
    (case a7 => k_is)
    (case o7 => k_is)
    (case r7 => rfl)
    (case b7 => kernel_rfl!)
    (case i7 => k_is)
    (case l7 => k_is)
    (case d7 => k_is)
    (case k7 => k_is)
    (case t7 => k_is)
    (case a8 => k_is)
    (case o8 => k_is)
    (case r8 => rfl)
    (case b8 => kernel_rfl!)
    (case i8 => k_is)
    (case l8 => k_is)
    (case d8 => k_is)
    (case k8 => k_is)
    (case t8 => k_is)
    (case a9 => k_is)
    (case o9 => k_is)
    (case r9 => rfl)
    (case b9 => kernel_rfl!)
    (case i9 => k_is)
    (case l9 => k_is)
    (case d9 => k_is)
    (case k9 => k_is)
    (case t9 => k_is)
    (case a10 => k_is)
    (case o10 => k_is)
    (case r10 => rfl)
    (case b10 => kernel_rfl!)
    (case i10 => k_is)
    (case l10 => k_is)
    (case d10 => k_is)
    (case k10 => k_is)
    (case t10 => k_is)
    (case a11 => k_is)
    (case o11 => k_is)
    (case r11 => rfl)
    (case b11 => kernel_rfl!)
    (case i11 => k_is)
    (case l11 => k_is)
    (case d11 => k_is)
    (case k11 => k_is)
    (case t11 => k_is)
    (case a12 => k_is)
    (case o12 => k_is)
    (case r12 => rfl)
    (case b12 => kernel_rfl!)
    (case i12 => k_is)
    (case l12 => k_is)
    (case d12 => k_is)
    (case k12 => k_is)
    (case t12 => k_is)
    (case a13 => k_is)
    (case o13 => k_is)
    (case r13 => rfl)
    (case b13 => kernel_rfl!)
    (case i13 => k_is)
    (case l13 => k_is)
    (case d13 => k_is)
    (case k13 => k_is)
    (case t13 => k_is)
    (case a14 => k_is)
    (case o14 => k_is)
    (case r14 => rfl)
    (case b14 => kernel_rfl!)
    (case i14 => k_is)
    (case l14 => k_is)
    (case d14 => k_is)
    (case k14 => k_is)
    (case t14 => k_is)
    (case a15 => k_is)
    (case o15 => k_is)
    (case r15 => rfl)
    (case b15 => kernel_rfl!)
    (case i15 => k_is)
    (case l15 => k_is)
    (case d15 => k_is)
    (case k15 => k_is)
    (case t15 => k_is)
    (case a16 => k_is)
    (case o16 => k_is)
    (case r16 => rfl)
    (case b16 => kernel_rfl!)
    (case i16 => k_is)
    (case l16 => k_is)
    (case d16 => k_is)
    (case k16 => k_is)
    (case t16 => k_is)
    (case a17 => k_is)
    (case o17 => k_is)
    (case r17 => rfl)
    (case b17 => kernel_rfl!)
    (case i17 => k_is)
    (case l17 => k_is)
    (case d17 => k_is)
    (case k17 => k_is)
    (case t17 => k_is)
    (case a18 => k_is)
    (case o18 => k_is)
    (case r18 => rfl)
    (case b18 => kernel_rfl!)
    (case i18 => k_is)
    (case l18 => k_is)
    (case d18 => k_is)
    (case k18 => k_is)
    (case t18 => k_is)
    (case a19 => k_is)
    (case o19 => k_is)
    (case r19 => rfl)
    (case b19 => kernel_rfl!)
    (case i19 => k_is)
    (case l19 => k_is)
    (case d19 => k_is)
    (case k19 => k_is)
    (case t19 => k_is)
    (case a20 => k_is)
    (case o20 => k_is)
    (case r20 => rfl)
    (case b20 => kernel_rfl!)
    (case a21 => k_is)
    (case o21 => k_is)
    (case r21 => rfl)
    (case b21 => kernel_rfl!)
    (case i21 => k_is)
    (case l21 => k_is)
    (case d21 => k_is)
    (case k21 => k_is)
    (case t21 => k_is)
    (case a22 => k_is)
    (case o22 => k_is)
    (case r22 => rfl)
    (case b22 => kernel_rfl!)
    (case i22 => k_is)
    (case l22 => k_is)
    (case d22 => k_is)
    (case k22 => k_is)
    (case t22 => k_is)
    (case aW => k_is)
    (case x20 => kernel_rfl!)
    (case hn => k_is)
    (case ht => k_is)
    (case kits => kernel_rfl!)
    (case z_int => k_is)
    (case z_len => k_is)
    (case z_abs => k_is)
    (case z_str => k_is)
    (case z_range => k_is)
    (case z_isinstance => k_is)
    (case z_ValueError => k_is)
    (case z_KeyError => k_is)
    (case z_IndexError => k_is)
    (case z_TypeError => k_is)
    (case z_ArithmeticError => k_is)
    (case z_RuntimeError => k_is)
    (case z_AttributeError => k_is)
    (case fa0 => k_is)
    (case fl0 => k_is)
    (case fc0 => k_is)
    (case fk0 => k_is)
    (case fa1 => k_is)
    (case fl1 => k_is)
    (case fc1 => k_is)
    (case fk1 => k_is)
    (case fa2 => k_is)
    (case fl2 => k_is)
    (case fc2 => k_is)
    (case fk2 => k_is)
    (case fa3 => k_is)
    (case fl3 => k_is)
    (case fc3 => k_is)
    (case fk3 => k_is)
    (case fa4 => k_is)
    (case fl4 => k_is)
    (case fc4 => k_is)
    (case fk4 => k_is)
    (case fa5 => k_is)
    (case fl5 => k_is)
    (case fc5 => k_is)
    (case fk5 => k_is)
    (case fa6 => k_is)
    (case fl6 => k_is)
    (case fc6 => k_is)
    (case fk6 => k_is)
    (case fa7 => k_is)
    (case fl7 => k_is)
    (case fc7 => k_is)
    (case fk7 => k_is)
    (case fa8 => k_is)
    (case fl8 => k_is)
    (case fc8 => k_is)
    (case fk8 => k_is)
    (case fa9 => k_is)
    (case fl9 => k_is)
    (case fc9 => k_is)
    (case fk9 => k_is)
    (case fa10 => k_is)
    (case fl10 => k_is)
    (case fc10 => k_is)
    (case fk10 => k_is)
#print axioms PySem.Challenge.cw_borderwords_k00_errors_keep_their_fields_holds
