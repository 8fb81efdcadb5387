import PyProof.Rows.All
import Wide.All
import OpenK.AllK
import Wide.FinOn
import KE.KIsAll
import KE.KTryMore
import HandS.Base
import HandS.Call
import HandS.List
import HandS.Exc
import HandS.ExcInit
import HandS.ForMost
import HandS.ExcField
import HandS.ExcIs
import HandS.IsInst
import HandS.Defaults
import HandS.MakeKw
import HandS.MakeKwOnly
import HandS.ExcValue
import KE.DataEq
import KE.KEqDict
import PyProof.InstEq
import HandS.Evl
import HandS.Style
import HandS.WordsDict
import HandS.Steps
import PyProof.ListStr
import HandS.Wide
import HandS.Codes
import HandS.Text
import HandS.StrMore
import PyProof.Rows.StrCase
import HandS.OwnEq
import HandS.ClsMeth
import HandS.FStr
import KE.KFmtOwn
import KE.KCallOwn
import HandS.SlotsOwn
import PyProof.Rows.SortStr
import HandS.RaiseMore
import HandS.WordsExc
import PyProof.Rows.StrSplitCount
import HandS.SetBool
import HandS.SetKeys
import HandS.Set
import HandS.Strs
import HandS.SetFor
import PyProof.Rows.SortShellAny
import HandS.Walk
import HandS.Iter
import HandS.Lambda
import HandS.EndTab
import PySem.Challenge.RW_borderwords_k04_regions_made_read_refuse
set_option Elab.async false
set_option linter.all false
set_option maxRecDepth 100000
set_option maxHeartbeats 8000000
/-! Own exception classes over ValueError: instances held as values (made with or without keywords), their attributes, isinstance of them. -/
namespace BW
open PySem PySem.W PySem.Calls PySem.HandSPX

/-- a class object of an own exception class over ValueError, with the tail bm of its mro -/
def EClsAt (h : Heap) (C : Addr) (bm : List Value) : Prop :=
  ∃ nm q N bs hdct sn sub ab col dd k0 k1 k2 k3 k5, h.get? C = some (excClassObj nm q C N bs bm hdct sn sub ab col dd k0 k1 k2 k3 k5 "ValueError.__new__")

section
variable {prog : Program} {w : World} {A : Around} {R : Result → Shared → Prop} {hp : Heap} {gs : Array GenState} {dr : Drawn} {tk : Nat} {os : OsState} {C fI : Addr} {bm : List Value}
  {kw : List (Str × Value)} {rest : List Value}
theorem ex_new (hC : EClsAt hp C bm) (hm : refsVE bm = true) (hl : rest.length ≤ sizeLine)
    (hq : R (.ok (.ret (.ref (hp.objs.size + 1)))) ⟨(hp.push (kdv_tup rest)).push (excO C hp.objs.size), gs, dr, tk, os⟩) :
    codeAny (model prog w) A (.builtin "ValueError.__new__" ⟨.ref C :: rest, kw⟩) R ⟨hp, gs, dr, tk, os⟩ := by
  obtain ⟨nm, q, N, bs, hdct, sn, sub, ab, col, dd, k0, k1, k2, k3, k5, kC⟩ := hC
  have FB := PySem.F.excBase_ValueError
  have hends := FB.ends
  have in1 : (Value.ref C :: bm).contains (.type "ValueError") = true := by
    rw [List.contains_cons, refsVE_contains "ValueError" bm hm, FB.hasB, Bool.or_true]
  have in2 : (Value.ref C :: bm).contains (.type "AttributeError") = false := by
    rw [List.contains_cons, refsVE_contains "AttributeError" bm hm, FB.noAttr]
    rfl
  have in3 : (Value.ref C :: bm).contains (.type "NameError") = false := by
    rw [List.contains_cons, refsVE_contains "NameError" bm hm, FB.noName]
    rfl
  refine codeAny_builtinAt FB.entry ?_
  unfold Builtin.«BaseException.__new__»
  refine wpAt_bind ?_
  show wpAt _ _ _ (stack >>= _) _ _ _
  refine wpAt_bind (wpAt_stack fun p below => wpAt_of_wpAny ?_)
  wp_walk
  refine wpAt_of_wpAny ?_
  rw [FB.owner]
  repeat (first
    | with_reducible refine wpAny_madeHere_exc FB.canon kC ?_
    | with_reducible refine wpAny_loadPart_at kC ?_
    | (with_reducible refine wpAny_isSubtype_exc kC ?_
       first | rw [in1] | rw [in2] | rw [in3])
    | wp_step)
  show R _ _
  rw [Heap.size_push]
  exact hq
theorem ex_check {M : Model} {E : Value → Shared → Prop} {Q : Unit → Shared → Prop} (hC : EClsAt hp C bm) (hm : refsVE bm = true) (hq : Q () ⟨hp, gs, dr, tk, os⟩) :
    wpAny M A (checkBuiltinCall "ValueError.__new__" ⟨.ref C :: rest, kw⟩) Q E ⟨hp, gs, dr, tk, os⟩ := by
  obtain ⟨nm, q, N, bs, hdct, sn, sub, ab, col, dd, k0, k1, k2, k3, k5, kC⟩ := hC
  have FB := PySem.F.excBase_ValueError
  have in1 : (Value.ref C :: bm).contains (.type "ValueError") = true := by
    rw [List.contains_cons, refsVE_contains "ValueError" bm hm, FB.hasB, Bool.or_true]
  have hstar := FB.noStar
  simp only [checkBuiltinCall, FB.newKind, FB.newSplit, FB.newRow]
  repeat (first
    | refine wpAny_loadPart_at kC ?_
    | (refine wpAny_isSubtype_exc kC ?_
       rw [in1])
    | refine wpAny_staticBase_exc kC ?_
    | refine wpAny_madeBy_exc kC ?_
    | simp only [bne_self_eq_false, Bool.false_eq_true, if_false]
    | wp_step)
  exact hq
theorem ex_typecall {E : Value → Shared → Prop} {Q : Fin → Shared → Prop} (hC : EClsAt hp C bm) (hm : refsVE bm = true) (hl : rest.length ≤ sizeLine)
    (hi : Looks (model prog w) hp (typeLookup (.ref C) "__init__") (some (.ref fI))) (hb : ∀ self, Looks (model prog w) hp (bindSpecial (.ref fI) self) (.ref fI, [self]))
    (hq : codeAny (model prog w) A (.call (.ref fI) ⟨.ref (hp.objs.size + 1) :: rest, kw⟩)
      (fun r s' => match r with
        | .ok (.ret v) => v = .none ∧ Q (.done (.ret (.ref (hp.objs.size + 1)))) s'
        | .ok _ => False
        | .error e => E e s') ⟨(hp.push (kdv_tup rest)).push (excO C hp.objs.size), gs, dr, tk, os⟩) :
    wpAny (model prog w) A (Builtin.«type.__call__» ⟨.ref C :: rest, kw⟩) Q E ⟨hp, gs, dr, tk, os⟩ := by
  have HC := id hC
  obtain ⟨nm, q, N, bs, hdct, sn, sub, ab, col, dd, k0, k1, k2, k3, k5, kC⟩ := hC
  have FB := PySem.F.excBase_ValueError
  repeat (first
    | with_reducible refine wpAny_loadPart_at kC ?_
    | with_reducible refine wpAny_madeBy_exc kC ?_
    | wp_step)
  refine codeAny_call_builtin_code (Code.quiet_builtin _ FB.quiet) (ex_check HC hm ?_)
  refine ex_new HC hm hl ?_
  show wpAny _ _ _ _ _ _
  have kk : ∀ b o, hp.get? b = some o → ((hp.push (kdv_tup rest)).push (excO C hp.objs.size)).get? b = some o := fun b o e =>
    Heap.get?_push_of_some _ (Heap.get?_push_of_some _ e)
  have kC2 := kk _ _ kC
  have eget : ((hp.push (kdv_tup rest)).push (excO C hp.objs.size)).get? (hp.objs.size + 1) = some (excO C hp.objs.size) := by heap_get
  have inC : (Value.ref C :: bm).contains (.ref C) = true := by simp
  have i1 := hi.keeps kk
  have b1 := (hb (.ref (hp.objs.size + 1))).keeps kk
  unfold isInstance
  repeat (first
    | with_reducible refine wpAny_loadPart_at eget ?_
    | (with_reducible refine wpAny_isSubtype_exc kC2 ?_
       rw [inC])
    | wp_step)
  show wpAny _ _ (typeLookup (.ref C) _) _ _ _
  refine i1.at ?_
  refine wpAny_holding (wpAny_bind (b1.at ?_))
  refine wpAny_bind (wpAny_call (codeAny_mono hq fun r s' z => ?_))
  rcases r with e | (v | _ | _ | _) <;> (first | exact z | exact z.elim | skip)
  obtain ⟨rfl, z⟩ := z
  first
    | exact wpAny_pure (wpAny_pure z)
    | (wp_walk
       exact z)
theorem ex_tcheck {M : Model} {E : Value → Shared → Prop} {Q : Unit → Shared → Prop} (hC : EClsAt hp C bm) (hq : Q () ⟨hp, gs, dr, tk, os⟩) :
    wpAny M A (checkBuiltinCall "type.__call__" ⟨.ref C :: rest, kw⟩) Q E ⟨hp, gs, dr, tk, os⟩ := by
  obtain ⟨nm, q, N, bs, hdct, sn, sub, ab, col, dd, k0, k1, k2, k3, k5, kC⟩ := hC
  have f3 := tc_sub
  have tyC : (⟨hp, gs, dr, tk, os⟩ : Shared).TypeIs (.ref C) "type" := ⟨_, kC, rfl⟩
  simp only [checkBuiltinCall, tc_kind, tc_split]
  repeat (any_goals (first
    | assumption
    | with_reducible refine wpAny_loadPart_at kC ?_
    | with_reducible refine wpAny_onRaise ?_
    | with_reducible refine wpAny_map ?_
    | wp_step))
theorem ex_call (hC : EClsAt hp C bm) (hm : refsVE bm = true) (hl : rest.length ≤ sizeLine)
    (hi : Looks (model prog w) hp (typeLookup (.ref C) "__init__") (some (.ref fI))) (hb : ∀ self, Looks (model prog w) hp (bindSpecial (.ref fI) self) (.ref fI, [self]))
    (hq : codeAny (model prog w) (A.under (.builtin "type.__call__" ⟨.ref C :: rest, kw⟩)) (.call (.ref fI) ⟨.ref (hp.objs.size + 1) :: rest, kw⟩) (InitBack (hp.objs.size + 1) R)
      ⟨(hp.push (kdv_tup rest)).push (excO C hp.objs.size), gs, dr, tk, os⟩) : codeAny (model prog w) A (.call (.ref C) ⟨rest, kw⟩) R ⟨hp, gs, dr, tk, os⟩ := by
  have HC := id hC
  obtain ⟨nm, q, N, bs, hdct, sn, sub, ab, col, dd, k0, k1, k2, k3, k5, kC⟩ := hC
  have f1 := tc_lookup
  have f2 := tc_bind (.ref C)
  have f3 := tc_sub
  have tyC : (⟨hp, gs, dr, tk, os⟩ : Shared).TypeIs (.ref C) "type" := ⟨_, kC, rfl⟩
  refine codeAny_of_tree ?_
  show wpAny _ _ (callAny (.ref C) _) _ _ _
  repeat (any_goals (first
    | assumption
    | with_reducible refine wpAny_loadPart_at kC ?_
    | wp_step))
  refine ⟨rfl, ?_⟩
  refine codeAny_call_builtin_at (Code.quiet_builtin _ (by decide +kernel)) entry_typeCall (ex_tcheck HC (ex_typecall HC hm hl hi hb ?_))
  refine codeAny_mono hq fun r s' z => ?_
  rcases r with e | (v | _ | _ | _) <;> exact z
end
end BW
namespace BW
open PySem PySem.Spec PyProof.Rows L2

/-! ### an instance made: C(..), C(k = ..) -/
/-- what is asked where an exception is made, a value: sp of the new one and of what is written -/
def tMkV (C : Addr) (n m : Nat) (sp : Sp) (gV : List V → List V → List V) (t u : TA) : TE := fun σ H Q => t σ H fun vs H1 => u σ H1 fun zs H2 =>
  vs.length = n ∧ zs.length = m ∧ ∀ a, H2 a = none → sp (gV (.ref a :: vs) zs) (upd H2 a (exo a C none)) (fun v H3 => v = .non ∧ Q (.ref a) H3) E0
section
variable {X : Cx} {CX : CXT} {k n : Nat} {fI C : Addr} {fd : FuncData} {ps ks : List Str} {sp : Sp} {x : Str} {p pos : Pos} {e : Expr} {es : List Expr} {kws : List Keyword} {t u : TA} {g : List Value → List Value → List Value} {gV : List V → List V → List V}
theorem run_mkV {pins : List (Addr × Obj)} {σ : L2.St} {H : Hp} {s : Shared} {Q : VK} {us ws : List Value} {vs zs : List V} (T : OexC X.K C) (iC : PySem.W.findIn X.K (.ref C) "__init__" = some (some (.ref fI)))
    (tI : PySem.W.typeIn X.K (.ref fI) = some (.type "function")) (F1 : FnOk X.prog X.w X.K X.mg X.base CX k fI fd ps sp) (hr : Room (k + 1) X.A) (hb : KBn X.K fd ps (n + 1) ks g gV) (hx : Passes CX X E0) (hn : n ≤ 1000)
    (I : Inv X pins σ H s) (r : Vals vs us) (rz : Vals zs ws) (l1 : vs.length = n) (l2 : zs.length = ks.length)
    (h : ∀ a, H a = none → sp (gV (.ref a :: vs) zs) (upd H a (exo a C none)) (fun v H3 => v = .non ∧ Q (.ref a) H3) E0) : wpAny (model X.prog X.w) X.A (call (.ref C) us (ks.zip ws)) (EP X pins σ Q) X.xe s := by
  obtain ⟨nm, q, N, bs, bm, sn, sub, ab, col, dd, k0, k1, k2, k3, k5, hC, hbm⟩ := T.cls
  have kC := I.kIn _ _ hC
  have I0 := I
  obtain ⟨hp, gs, dr, tk, os⟩ := s
  have hsz : hp.objs.size ≤ hp.objs.size + 1 := Nat.le_succ _
  have hq := h (hp.objs.size + 1) (I.hok.fresh hsz)
  have kk : ∀ b o, hp.get? b = some o → ((hp.push (PySem.W.kdv_tup us)).push (PySem.HandSPX.excO C hp.objs.size)).get? b = some o := fun b o e => Heap.get?_push_of_some _ (Heap.get?_push_of_some _ e)
  have eget : ((hp.push (PySem.W.kdv_tup us)).push (PySem.HandSPX.excO C hp.objs.size)).get? (hp.objs.size + 1) = some (PySem.HandSPX.excO C hp.objs.size) := by heap_get
  have I2 : Inv X pins σ (upd H (hp.objs.size + 1) (exo (hp.objs.size + 1) C none)) ⟨(hp.push (PySem.W.kdv_tup us)).push (PySem.HandSPX.excO C hp.objs.size), gs, dr, tk, os⟩ :=
    I.laid (t' := tk) kk hsz (exo_ok eget)
  have r1 : Vals (V.ref (hp.objs.size + 1) :: vs) (Value.ref (hp.objs.size + 1) :: us) := .cons rfl r
  have r2 := hb.rel r1 rz
  have e1 : (Value.ref (hp.objs.size + 1) :: us).length = n + 1 := by
    rw [List.length_cons, ← r.length, l1]
  have e2 : ws.length = ks.length := rz.length.symm.trans l2
  have hus : us.length ≤ sizeLine := by
    rw [← Paired.length r, sizeLine_eq]
    omega
  refine wpAny_call (ex_call ⟨nm, q, N, bs, true, sn, sub, ab, col, dd, k0, k1, k2, k3, k5, kC⟩ hbm hus (PySem.W.looks_findIn I0.kIn iC) (fun self => PySem.W.bind_fn I0.kIn self tI)
    (codeAny_mono (F1.run _ X.stack _ _ ⟨Value.ref (hp.objs.size + 1) :: us, ks.zip ws⟩ (g (Value.ref (hp.objs.size + 1) :: us) ws) _ _ E0 (hr.make C us (ks.zip ws))
      (I2.env0.make C us (ks.zip ws)) (hb.to _ (Value.ref (hp.objs.size + 1) :: us) ws I2.kIn e1 e2) r2 hq) fun r s' hq' => ?_))
  cases r with
  | error er => exact hx pins σ _ _ er s' I2 hq'
  | ok fl =>
    cases fl with
    | ret u =>
      obtain ⟨v, H', I3, rv, ev, q3⟩ := I2.after hq'
      subst ev
      exact ⟨rv, ⟨V.ref (hp.objs.size + 1), H', I3, rfl, q3⟩⟩
    | next => exact False.elim hq'
    | brk => exact False.elim hq'
    | cont => exact False.elim hq'
/-- C(e, ..) -/
theorem pe_mkV (T : OexC X.K C) (iC : PySem.W.findIn X.K (.ref C) "__init__" = some (some (.ref fI))) (tI : PySem.W.typeIn X.K (.ref fI) = some (.type "function")) (F1 : FnOk X.prog X.w X.K X.mg X.base CX k fI fd ps sp)
    (hr : Room (k + 1) X.A) (hb : KBn X.K fd ps (n + 1) [] g gV) (hx : Passes CX X E0) (hn : n ≤ 1000) (hg : Gl X x) (hm : X.mg x = some (.ref C)) (ha : PA X (e :: es) t)
    (hdb : (x == ("__debug__" : Str)) = false := by decide) (he : starEach (e :: es) X.env = (false, eval e X.env) :: starEach es X.env := by rfl) (hpl : (backTo pos (starEach es X.env)).any (·.1) = false := by rfl) :
    PE X (.Call (.Name x p) (e :: es) [] pos) (tMkV C n 0 sp gV t tNil) := by
  refine ⟨fun pins s σ H Q I h => ?_⟩
  refine wpAny_Call_Name_kw (ld_glob I hg hm ?_ hdb)
  refine PySem.W.callWith_K (h₀ := X.base) I.ok.mod.kin T.kC (thn (ha.run pos pins s σ H _ I h) fun us s1 hh => ?_) he hpl
  obtain ⟨vs, H1, I1, r1, l1, l2, q1⟩ := hh
  exact ⟨I1.kIn, run_mkV (ks := []) (ws := []) (zs := []) T iC tI F1 hr hb hx hn I1 r1 .nil l1 rfl q1⟩
/-- C(k = e, ..) -/
theorem pe_mkVk (T : OexC X.K C) (iC : PySem.W.findIn X.K (.ref C) "__init__" = some (some (.ref fI))) (tI : PySem.W.typeIn X.K (.ref fI) = some (.type "function")) (F1 : FnOk X.prog X.w X.K X.mg X.base CX k fI fd ps sp)
    (hr : Room (k + 1) X.A) (hb : KBn X.K fd ps 1 ks g gV) (hx : Passes CX X E0) (hg : Gl X x) (hm : X.mg x = some (.ref C)) (hkw : PK X kws u)
    (hall : (backToKw pos (keywordEach kws X.env)).all (·.1.isSome) = true := by rfl) (hks : (backToKw pos (keywordEach kws X.env)).filterMap (·.1) = ks := by rfl) (hdb : (x == ("__debug__" : Str)) = false := by decide)
    (hpl : ((backTo pos (starEach [] X.env)).any (·.1) || (backToKw pos (keywordEach kws X.env)).any (·.1.isNone)) = false := by rfl) :
    PE X (.Call (.Name x p) [] kws pos) (tMkV C 0 ks.length sp gV tNil u) := by
  refine ⟨fun pins s σ H Q I h => ?_⟩
  refine wpAny_Call_Name_kw (ld_glob I hg hm ?_ hdb)
  refine PySem.W.callWith_KW0 (h₀ := X.base) I.ok.mod.kin T.kC hall ?_ hpl
  refine thn (hkw.run pos pins s σ H _ I h) fun ws s2 hh => ?_
  obtain ⟨zs, H2, I2, rz, l1, l2, q2⟩ := hh
  refine ⟨I2.kIn, ?_⟩
  rw [hks]
  exact run_mkV (us := []) (vs := []) T iC tI F1 hr hb hx (Nat.zero_le _) I2 .nil rz rfl l2 q2
end

/-! ### an attribute of an instance -/
def tXA (K : PySem.W.Frag) (f : Str) (te : TE) : TE := fun σ H Q => te σ H fun x H1 => ∃ (a C d : Addr) (fs : List (Str × V)) (v : V),
  x = .ref a ∧ H1 a = some (exo a C (some d)) ∧ H1 d = some (exd d fs) ∧ XfC K C ∧ PySem.W.findIn K (.ref C) f = some none ∧ fs.lookup f = some v ∧ Q v H1
theorem pe_xa {X : Cx} {e : Expr} {te : TE} {pos : Pos} {f : Str} (he : PE X e te) (hb : attributeBase e f X.env (eval e X.env) = eval e X.env := by rfl) : PE X (.Attribute e f pos) (tXA X.K f te) := by
  refine ⟨fun pins s σ H Q I h => ?_⟩
  refine attr_of hb (thn (he.run pins s σ H _ I h) fun u s1 hh => ?_)
  obtain ⟨x, H1, I1, rx, a, C, d, fs, v, ex, ea, ed, T, hno, hl, q⟩ := hh
  subst ex
  obtain rfl : u = Value.ref a := rx
  obtain ⟨t1, ho⟩ := exo_at I1.hok ea
  obtain ⟨mA, hns, rel⟩ := exd_at I1.hok ed
  obtain ⟨od, hod, hlk⟩ := lookIn_ns hns
  obtain ⟨u, hu, ru⟩ := RelO.some_of (v := v) (o := mA f) (by rw [← hl]; exact rel f)
  exact HandSPX.exc_get I1.kIn (od := some od) ⟨ho, rfl, rfl, hod⟩ T.ga T.gg T.exC (PySem.W.findObj_own T.hdC hno rfl (by rw [hlk, hu])) (handed_of ru) ⟨v, H1, I1.tok _, ru, q⟩

/-! ### isinstance of an instance -/
open PySem.W PySem.Calls in
theorem get_class {prog : Program} {w : World} {A : Around} {E : Value → Shared → Prop} {K : PySem.W.Frag} {x D : Addr} {ox od : Obj} {s : Shared} {Q : Option Value → Shared → Prop} (T : ExcC K D)
    (X : K.In s.heap) (I : PySem.W.InstAt s.heap x ox D (some od)) (h : Q (some (.ref D)) { s with toks := s.toks + 1 }) : wpAny (model prog w) A (getAttr? (.ref x) "__class__") Q E s := by
  have hf : findObj K D (some od) "__class__" = some (.bind (.builtin "getset_descriptor.__get__") (.builtin "object.__class__")) := findObj_data (by
    obtain ⟨cd, hc, _⟩ := any_some T.hd
    rw [hc]
    rfl) T.ha T.hn T.ht
  obtain ⟨hp, gs, dr, tk, os⟩ := s
  have a0 := I.type (M := model prog w)
  have a1 := looks_findIn (M := model prog w) X T.hg
  have a2 := looks_findIn (M := model prog w) X T.hk
  have a3 := looks_find (M := model prog w) X I hf
  have isB : Looks (model prog w) hp (isInstance (.ref x) (.type "BaseException")) true := a0.andThen (looks_subIn X T.hs)
  have ne2 : (Value.builtin "BaseException.__getattribute__" == Value.builtin "object.__getattribute__") = false := by decide +kernel
  have ne0 : (false && onTheHeap (Value.builtin "BaseException.__getattribute__")) = false := rfl
  have ne1 : (onTheHeap (Value.ref D) && Value.builtin "BaseException.__getattribute__" == Value.builtin "object.__getattribute__") = false := by
    rw [ne2]
    rfl
  unfold getAttr? getAttrBy? getAttrBy
  refine wpAny_bind (wpAny_mkText (wpAny_bind (wpAny_attempt (wpAny_holding (wpAny_bind (a0.at (wpAny_bind (a1.at ?_))))))))
  show wpAny _ _ (ite (_ = true) _ _) _ _ _
  rw [ne1, if_neg Bool.false_ne_true]
  unfold getAttrByItsOwn hookBefore
  refine wpAny_bind ?_
  rw [if_pos (show onTheHeap (Value.ref D) = true from rfl)]
  refine a2.at ?_
  refine wpAny_bind (wpAny_attempt (wpAny_holding ?_))
  unfold callGetattribute
  rw [ne0, if_neg Bool.false_ne_true]
  unfold boundAndCalled
  rw [PySem.F.excAttr_ValueError.ga.bind (.ref x)]
  refine wpAny_bind (wpAny_pure ?_)
  show wpAny _ _ (call (.builtin "BaseException.__getattribute__") [.ref x, .str "__class__" tk]) _ _ _
  refine wpAny_call (codeAny_call_builtin PySem.F.excAttr_ValueError.ga.plain PySem.F.entry_bexc_ga ?_)
  refine @check_slot (model prog w) _ _ ⟨hp, gs, dr, tk + 1, os⟩ "BaseException.__getattribute__" "BaseException" "__getattribute__" (.ref x) [.str "__class__" tk] [] _ (by decide +kernel) (by decide +kernel)
    isB (PySem.F.args_bexc_ga (.ref x) (.str "__class__" tk)) ?_
  unfold Builtin.«object.__getattribute__»
  refine wpAny_bind (wpAny_of_eq (a := ((Value.ref x : Value), [Value.str "__class__" tk])) (by first | rfl | (simp only [slotArgs]; rfl)) ?_)
  refine wpAny_bind (wpAny_pure (wpAny_bind (a0.at (wpAny_bind (a3.at ?_)))))
  show wpAny _ _ (holding [Value.builtin "object.__class__"] (call (.builtin "getset_descriptor.__get__") [.builtin "object.__class__", .ref x, .ref D]) >>= ret) _ _ _
  refine wpAny_bind (wpAny_holding (wpAny_call (class_get (s := ⟨hp, gs, dr, tk + 1, os⟩) (ox := ox) (od := some od) X I T.hm ?_)))
  refine wpAny_pure ?_
  show wpAny _ _ (handedOut (.ref D)) _ _ _
  rw [handedOut_of (v := .ref D) rfl]
  first
    | exact wpAny_pure (wpAny_pure h)
    | exact wpAny_pure h
    | exact wpAny_pure (wpAny_bind (wpAny_pure (wpAny_pure h)))
theorem cls_at {K : PySem.W.Frag} {D : Addr} (T : ExcC K D) : ∃ (_ : Unit) (o : Value × Option Addr × ClassData × Array (Option Value)), K.lookup D = some ⟨o.1, o.2.1, .cls o.2.2.1, o.2.2.2⟩ := by
  obtain ⟨cd, hc, _⟩ := PySem.W.any_some T.hd
  unfold PySem.W.clsIn at hc
  split at hc
  · rename_i c' d' cd' sl' ho
    exact ⟨(), (c', d', cd', sl'), ho⟩
  · cases hc
theorem kitx_inst {K : PySem.W.Frag} {x D : Addr} {ox od : Obj} (T : ExcC K D) : PySem.W.KitX K (.ref x) (.ref D) (fun h => PySem.W.InstAt h x ox D (some od)) where
  ty := fun _ _ _ I => I.type
  it := fun _ _ X _ => by
    obtain ⟨_, o, hl⟩ := cls_at T
    intro A' Q' E' s' k q
    unfold isType loadHead
    exact wpAny_bind (wpAny_loadPart (k _ _ (X _ _ hl)) (wpAny_pure q))
  ne := fun h tp dd its n sl X htp => by
    obtain ⟨_, ⟨c1, c2, c3, c4⟩, hl⟩ := cls_at T
    refine Bool.eq_false_iff.mpr fun q => ?_
    obtain rfl : D = tp := Value.ref.inj (beq_iff_eq.mp q)
    cases (X _ _ hl).symm.trans htp
  ca := fun X I k => get_class T X I k
/-- isinstance(e, c), e an instance with its dict, c one class -/
def rIsX (K : PySem.W.Frag) : List V → Hp → VK → Prop := fun xs H Q => ∃ (a C d : Addr) (fs : List (Str × V)) (c : V) (cv : Value) (b : Bool),
  xs = [.ref a, c] ∧ H a = some (exo a C (some d)) ∧ H d = some (exd d fs) ∧ ExcC K C ∧ ClsV c cv ∧ PySem.W.kitOne K (.ref C) cv = some b ∧ Q (.bl b) H
/-- c a tuple of classes that was just laid -/
def rIsXT (K : PySem.W.Frag) : List V → Hp → VK → Prop := fun xs H Q => ∃ (a C d : Addr) (fs : List (Str × V)) (tp : Addr) (cs : List V) (us : List Value) (b : Bool),
  xs = [.ref a, .ref tp] ∧ H a = some (exo a C (some d)) ∧ H d = some (exd d fs) ∧ ExcC K C ∧ H tp = some (.tup cs) ∧ Paired ClsV cs us ∧ PySem.W.kitAny K (.ref C) us = some b ∧ Q (.bl b) H
section
variable {X : Cx}
theorem inst_at {pins : List (Addr × Obj)} {σ : L2.St} {H : Hp} {s : Shared} {a C d : Addr} {fs : List (Str × V)} (I : Inv X pins σ H s) (ea : H a = some (exo a C (some d))) (ed : H d = some (exd d fs)) :
    ∃ ox od : Obj, PySem.W.InstAt s.heap a ox C (some od) := by
  obtain ⟨t1, ho⟩ := exo_at I.hok ea
  obtain ⟨mA, hns, rel⟩ := exd_at I.hok ed
  obtain ⟨od, hod, _⟩ := lookIn_ns hns
  exact ⟨_, od, ho, rfl, rfl, hod⟩
theorem call_isX : CallR X (.builtin "isinstance") (rIsX X.K) := by
  intro pins s σ H xs us Q I r h
  obtain ⟨a, C, d, fs, c, cv, b, rfl, ea, ed, T, k, e, q⟩ := h
  obtain ⟨u1, u2, rfl, r1, r2⟩ := vals2 r
  obtain rfl := k.eq r2
  cases (show u1 = Value.ref a from r1)
  obtain ⟨ox, od, J⟩ := inst_at I ea ed
  exact PySem.W.kia_one (kitx_inst T) I.kIn J e (fun z => nomatch z) fun tk => ⟨.bl b, H, I.tok tk, rfl, q⟩
theorem call_isXT : CallR X (.builtin "isinstance") (rIsXT X.K) := by
  intro pins s σ H xs us Q I r h
  obtain ⟨a, C, d, fs, tp, cs, ws, b, rfl, ea, ed, T, hT, k, e, q⟩ := h
  obtain ⟨u1, u2, rfl, r1, r2⟩ := vals2 r
  cases (show u1 = Value.ref a from r1)
  cases (show u2 = Value.ref tp from r2)
  obtain ⟨ox, od, J⟩ := inst_at I ea ed
  have hx : ObjOk X.prog X.w H s.heap tp (.tup cs) := I.hok tp _ hT
  obtain ⟨_, its, rv, ot, g1, g2, n, g3⟩ := hx
  obtain rfl := ClsV.all k rv
  obtain ⟨oc, dd, dt, sl⟩ := ot
  dsimp only at g2 g3
  subst g2
  subst g3
  exact PySem.W.kia_tup (kitx_inst T) I.kIn J g1 e (fun z => nomatch z) fun tk => ⟨.bl b, H, I.tok tk, rfl, q⟩
end
end BW
/-! x != x is False: of scalars, lists, tuples, dicts, instances of own errors. -/
namespace BW
open PySem

theorem eq_self_at (A : Around) (s : Shared) (v : Value) : SeqAt.EqAt A s v v true := fun prog w E Q hq => by
  unfold eqBool
  refine wpAny_holding ?_
  rw [if_pos (beq_self_eq_true v)]
  first
    | exact wpAny_bind (wpAny_rule (wpAny_pure hq))
    | exact wpAny_bind (wpAny_pure (wpAny_pure hq))
    | exact wpAny_rule (wpAny_pure hq)

/-- what the class of an own error must have for == and != of its instances to be by identity -/
structure ExcNe (K : PySem.W.Frag) (C : Addr) : Prop where
  eq : PySem.W.findIn K (.ref C) "__eq__" = some (some (.builtin "object.__eq__"))
  ne : PySem.W.findIn K (.ref C) "__ne__" = some (some (.builtin "object.__ne__"))
  ob : PySem.W.mroIn K C (.type "object") = some true

section
open PySem.W PySem.Calls
variable {prog : Program} {w : World} {A : Around} {E : Value → Shared → Prop} {K : Frag} {x C : Addr} {ox : Obj} {od : Option Obj} {s : Shared}
theorem special_at {name : Str} {id : String} {args : List Value} {Q : Option Value → Shared → Prop} (X : K.In s.heap) (I : InstAt s.heap x ox C od) (hf : findIn K (.ref C) name = some (some (.builtin id)))
    (hb : bindSpecial (.builtin id) (.ref x) = pure (.builtin id, [.ref x])) (hq : wpAny (model prog w) A (call (.builtin id) (.ref x :: args)) (fun v => Q (some v)) E s) :
    wpAny (model prog w) A (callSpecialIfBound? (.ref x) name args) Q E s := by
  simp only [callSpecialIfBound?, bindSpecialIfBound?]
  have a0 := I.type (M := model prog w)
  have a1 := looks_findIn (M := model prog w) X hf
  refine wpAny_holding (wpAny_bind (wpAny_bind ?_))
  unfold specialOf
  refine wpAny_bind (a0.at ?_)
  refine a1.at ?_
  simp only [hb]
  refine wpAny_bind (wpAny_askSetting (wpAny_ite ?_))
  have fin : wpAny (model prog w) A (call (.builtin id) ([.ref x] ++ args) >>= fun v => pure (some v)) Q E s :=
    wpAny_bind (wpAny_mono hq (fun v s' h' => wpAny_pure h') fun _ _ h' => h')
  split
  · exact wpAny_bind (wpAny_pure (wpAny_pure fin))
  · exact wpAny_tryCatch (wpAny_bind (wpAny_pure (wpAny_pure fin)))
theorem isObj_at (X : K.In s.heap) (I : InstAt s.heap x ox C od) (hm : mroIn K C (.type "object") = some true) : Looks (model prog w) s.heap (isInstance (.ref x) (.type "object")) true :=
  I.type.andThen (looks_mroIn X hm)
theorem call_eq_self {Q : Value → Shared → Prop} (T : ExcNe K C) (X : K.In s.heap) (I : InstAt s.heap x ox C od) (hq : Q (.bool true) s) : wpAny (model prog w) A (call (.builtin "object.__eq__") [.ref x, .ref x]) Q E s := by
  refine wpAny_call (codeAny_call_builtin F.cmp_object.eq.plain F.cmpEntry_eq ?_)
  exact @check_slot (model prog w) _ _ s "object.__eq__" "object" "__eq__" (.ref x) [.ref x] [] _ F.cmpKind_eq F.cmpSplit_eq (isObj_at X I T.ob) (F.cmpArgs_eq _ _) (objEq_entry_same hq)
theorem call_ne_self {Q : Value → Shared → Prop} (T : ExcNe K C) (X : K.In s.heap) (I : InstAt s.heap x ox C od) (hu : A.units + 1 < cLine) (hq : Q (.bool false) s) :
    wpAny (model prog w) A (call (.builtin "object.__ne__") [.ref x, .ref x]) Q E s := by
  have hu' : A.in1.units < cLine := hu
  refine wpAny_call (codeAny_call_builtin F.cmp_object.ne.plain F.cmpEntry_ne ?_)
  refine @check_slot (model prog w) _ _ s "object.__ne__" "object" "__ne__" (.ref x) [.ref x] [] _ F.cmpKind_ne F.cmpSplit_ne (isObj_at X I T.ob) (F.cmpArgs_ne _ _) ?_
  unfold Builtin.«object.__ne__»
  repeat (first
    | with_reducible refine wpAny_cRoomFor hu' ?_
    | with_reducible refine special_at X I T.eq (F.cmp_object.eq.bind (.ref x)) (call_eq_self T X I ?_)
    | wp_step)
  exact hq
theorem ne_self_inst {Q : Value → Shared → Prop} (T : ExcNe K C) (X : K.In s.heap) (I : InstAt s.heap x ox C od) (hu : A.units + 1 < cLine) (hq : Q (.bool false) s) :
    wpAny (model prog w) A (compareOp .NotEq (.ref x) (.ref x)) Q E s := by
  have hu0 : A.units < cLine := Nat.lt_of_succ_lt hu
  have a0 := I.type (M := model prog w)
  show wpAny _ _ (richCompare .NotEq (.ref x) (.ref x)) _ _ _
  simp only [richCompare, cmpInfo_NotEq, oneThing_ref]
  refine wpAny_holding (wpAny_bind (wpAny_cRoomFor hu0 ?_))
  refine wpAny_bind (a0.at (wpAny_bind (a0.at ?_)))
  rw [if_neg (by simp)]
  refine wpAny_bind (wpAny_pure ?_)
  simp only [Bool.false_eq_true, if_false]
  unfold tryCompare
  refine wpAny_bind (wpAny_bind (special_at X I T.ne (F.cmp_object.ne.bind (.ref x)) (call_ne_self T X I hu ?_)))
  exact wpAny_pure (wpAny_pure hq)
end

/-! ### the rule -/
open PySem.Spec PyProof.Rows L2
theorem all_yes : ∀ l : List Nat, (l.all fun _ => true) = true
  | [] => rfl
  | _ :: l => all_yes l
/-- a value that is not unequal to itself -/
inductive SelfNe (K : PySem.W.Frag) (H : Hp) : V → Prop where
  | flat {x : V} (h : scal x x = true) : SelfNe K H x
  | lst {a : Addr} {xs : List V} (h : H a = some (.lst xs)) : SelfNe K H (.ref a)
  | tup {a : Addr} {xs : List V} (h : H a = some (.tup xs)) : SelfNe K H (.ref a)
  | dict {a : Addr} {k : Key} {x : V} (h : H a = some (.dK [(k, x)])) : SelfNe K H (.ref a)
  | err {a C d : Addr} {fs : List (Str × V)} (h : H a = some (exo a C (some d))) (h' : H d = some (exd d fs)) (T : ExcNe K C) : SelfNe K H (.ref a)
theorem SelfNe.same {K : PySem.W.Frag} {H H' : Hp} {x : V} (e : Same H H') (h : SelfNe K H x) : SelfNe K H' x := by
  cases h with
  | flat h => exact .flat h
  | lst h => exact .lst (e _ _ h)
  | tup h => exact .tup (e _ _ h)
  | dict h => exact .dict (e _ _ h)
  | err h h' T => exact .err (e _ _ h) (e _ _ h') T
def rNeS (K : PySem.W.Frag) : R2 := fun x y H Q => x = y ∧ SelfNe K H x ∧ Q (.bl false) H
theorem op_neS {X : Cx} (hu : X.A.units + 1 < cLine) : OpR X (compareOp .NotEq) (rNeS X.K) := by
  intro pins s σ H x y v u Q I rx ry h
  obtain ⟨rfl, hx, q⟩ := h
  have hu0 : X.A.units < cLine := Nat.lt_of_succ_lt hu
  have fin : EP X pins σ Q (.bool false) s := ⟨.bl false, H, I, rfl, q⟩
  cases hx with
  | flat h => exact op_ne pins s σ H x x v u Q I rx ry ⟨h, by rw [decide_eq_true rfl]; exact q⟩
  | @lst a xs h =>
    cases (show v = Value.ref a from rx)
    cases (show u = Value.ref a from ry)
    have hz : ObjOk X.prog X.w H s.heap a (.lst xs) := I.hok a _ h
    obtain ⟨_, its, n, _, e⟩ := hz
    have hl : s.heap.IsList a its.toArray := ⟨_, e, rfl, n, rfl⟩
    have z := SeqAt.RcNeAt.lists hl hl rfl hu0 (e := fun _ => true) fun j _ _ => eq_self_at _ _ _
    exact z _ _ _ _ (by rw [all_yes]; exact fin)
  | @tup a xs h =>
    cases (show v = Value.ref a from rx)
    cases (show u = Value.ref a from ry)
    have hz : ObjOk X.prog X.w H s.heap a (.tup xs) := I.hok a _ h
    obtain ⟨_, its, _, o, e, ec, n, ed⟩ := hz
    have hl : s.heap.IsTuple a its.toArray := ⟨o, e, ec, n, ed⟩
    have z := SeqAt.RcNeAt.tuples hl hl hu0 (e := fun _ => true) fun j _ _ => eq_self_at _ _ _
    exact z _ _ _ _ (by rw [all_yes, beq_self_eq_true]; exact fin)
  | @dict a k x h =>
    cases (show v = Value.ref a from rx)
    cases (show u = Value.ref a from ry)
    have hz : ObjOk X.prog X.w H s.heap a (.dK [(k, x)]) := I.hok a _ h
    obtain ⟨_, ya, vs, rv, dv⟩ := hz
    cases rv with
    | cons r1 r2 =>
      rename_i p ps
      obtain ⟨k', u'⟩ := p
      obtain ⟨rfl, _⟩ := r1
      cases r2
      refine PySem.W.keq_ne (knd := mixKind X.prog X.w) (r := true) ya ya dv dv hu0 (fun _ => ?_) (by simpa using fin)
      have hh := PySem.W.KeqHits.hit (A := X.A.in1) (s := s) (kb := [(k, u')]) (k := k) (v := u') (y := u') (r := []) (e := true) (b := true) (by simp [valueAt]) (eq_self_at _ _ _) .nil
      exact hh
  | @err a C d fs h h' T =>
    cases (show v = Value.ref a from rx)
    cases (show u = Value.ref a from ry)
    obtain ⟨ox, od, J⟩ := inst_at I h h'
    exact ne_self_inst T I.kIn J hu fin
end BW
/-! List comprehensions whose elements change nothing that is known; a pen. -/
namespace BW
open PySem PySem.Spec PyProof.Rows L2

theorem same_new {H : Hp} {p : Addr} {o : HO} (h : H p = none) : Same H (upd H p o) := fun b x e => by
  rw [upd_ne (ne_of_none e h)]
  exact e
theorem same_over {H H' : Hp} {p : Addr} {o : HO} (h : H p = none) (e : Same H H') : Same H (upd H' p o) := fun b x q => by
  rw [upd_ne (ne_of_none q h)]
  exact e _ _ q
theorem _root_.L2.Same.seqT {K : PySem.W.Frag} {H H' : Hp} {a : Addr} {xs : List V} (e : Same H H') (h : SqT K H a xs) : SqT K H' a xs := by
  rcases h with (h | ⟨o, h⟩) | h
  · exact .inl (.inl (e _ _ h))
  · exact .inl (.inr ⟨o, e _ _ h⟩)
  · exact .inr h
theorem take_up {α : Type} {l : List α} {i : Nat} {x : α} (h : l[i]? = some x) : l.take (i + 1) = l.take i ++ [x] := by
  rw [List.take_add_one, h]
  rfl
theorem get_of {α β : Type} {xs : List α} {ys : List β} {i : Nat} {x : α} (hl : ys.length = xs.length) (h : xs[i]? = some x) : ∃ y, ys[i]? = some y := by
  have hi : i < ys.length := by
    rw [hl]
    exact (List.getElem?_eq_some_iff.mp h).1
  exact ⟨_, List.getElem?_eq_getElem hi⟩
theorem small_of {n : Nat} (h : n < 100000) : n < sizeLine := Nat.lt_of_lt_of_le h (by decide)

/-- the body of a comprehension at one item: gives y, whatever else is known -/
def Gives (te : TE) (σ : L2.St) (H1 : Hp) (y : V) : Prop := ∀ H, Same H1 H → ∀ Q : VK, (∀ H', Same H H' → Q y H') → te σ H Q
section
variable {K : PySem.W.Frag} {a : Addr} {xs ys : List V} {i0 : Nat} {te : TE} {vs : List Nat} {σ : L2.St} {H1 : Hp} {D : Addr} {Qd : Hp → Prop}
theorem lc_mapL (hl : SqL K H1 a xs) (hD : H1 D = none) (len : ys.length = xs.length) (lt : xs.length < 100000) (hw : ∀ x, wipe ((wipe σ vs).set i0 (some x)) vs = wipe σ vs)
    (hs : ∀ (i : Nat) (x y : V), xs[i]? = some x → ys[i]? = some y → Gives te ((wipe σ vs).set i0 (some x)) H1 y) (hd : ∀ H, Same H1 H → H D = some (.lst ys) → Qd H) :
    ∃ W : Nat → Nat → Hp → Prop, (∃ m, W 0 m (upd H1 D (.lst []))) ∧ ∀ i m H, W i m H →
      ((Itl K a).stop i H ∧ Qd H) ∨ ((Itl K a).go i H ∧ ∃ Nx : Hp → Prop, (∀ H', Nx H' → ∃ m', m' < m ∧ W (i + 1) m' H') ∧ ∀ x H', (Itl K a).yld i H x H' → gName i0 x (wipe σ vs) H' fun σ2 H2 => wipe σ2 vs = wipe σ vs ∧ tYes σ2 H2 fun b H3 =>
        if b = true then te σ2 H3 fun y H4 => ∃ acc, H4 D = some (.lst acc) ∧ acc.length < sizeLine ∧ Nx (upd H4 D (.lst (acc ++ [y]))) else Nx H3) := by
  refine lc_list (K := K) (a := a) (xs := xs) (fun i H => Same H1 H ∧ H D = some (.lst (ys.take i))) ⟨same_new hD, upd_same⟩ (fun i H _ hp => hp.1.seq hl) (fun i x H hx hp => ?_) (fun H hp => ?_)
  · obtain ⟨y, hy⟩ := get_of len hx
    refine ⟨hw x, ?_⟩
    dsimp only [tYes]
    rw [if_pos rfl]
    refine hs i x y hx hy H hp.1 _ fun H' e => ⟨ys.take i, e _ _ hp.2, ?_, same_over hD (hp.1.trans e), ?_⟩
    · refine small_of ?_
      rw [List.length_take]
      omega
    · rw [upd_same, take_up hy]
  · rw [← len, List.take_length] at hp
    exact hd H hp.1 hp.2
theorem lc_mapT (hl : SqT K H1 a xs) (hD : H1 D = none) (len : ys.length = xs.length) (lt : xs.length < 100000) (hw : ∀ x, wipe ((wipe σ vs).set i0 (some x)) vs = wipe σ vs)
    (hs : ∀ (i : Nat) (x y : V), xs[i]? = some x → ys[i]? = some y → Gives te ((wipe σ vs).set i0 (some x)) H1 y) (hd : ∀ H, Same H1 H → H D = some (.lst ys) → Qd H) :
    ∃ W : Nat → Nat → Hp → Prop, (∃ m, W 0 m (upd H1 D (.lst []))) ∧ ∀ i m H, W i m H →
      ((Itt K a).stop i H ∧ Qd H) ∨ ((Itt K a).go i H ∧ ∃ Nx : Hp → Prop, (∀ H', Nx H' → ∃ m', m' < m ∧ W (i + 1) m' H') ∧ ∀ x H', (Itt K a).yld i H x H' → gName i0 x (wipe σ vs) H' fun σ2 H2 => wipe σ2 vs = wipe σ vs ∧ tYes σ2 H2 fun b H3 =>
        if b = true then te σ2 H3 fun y H4 => ∃ acc, H4 D = some (.lst acc) ∧ acc.length < sizeLine ∧ Nx (upd H4 D (.lst (acc ++ [y]))) else Nx H3) := by
  refine lc_tup (K := K) (a := a) (xs := xs) (fun i H => Same H1 H ∧ H D = some (.lst (ys.take i))) ⟨same_new hD, upd_same⟩ (fun i H _ hp => hp.1.seqT hl) (fun i x H hx hp => ?_) (fun H hp => ?_)
  · obtain ⟨y, hy⟩ := get_of len hx
    refine ⟨hw x, ?_⟩
    dsimp only [tYes]
    rw [if_pos rfl]
    refine hs i x y hx hy H hp.1 _ fun H' e => ⟨ys.take i, e _ _ hp.2, ?_, same_over hD (hp.1.trans e), ?_⟩
    · refine small_of ?_
      rw [List.length_take]
      omega
    · rw [upd_same, take_up hy]
  · rw [← len, List.take_length] at hp
    exact hd H hp.1 hp.2
/-- nothing is taken -/
theorem lc_noneT {tt : TT} (hl : SqT K H1 a xs) (hD : H1 D = none) (hw : ∀ x, wipe ((wipe σ vs).set i0 (some x)) vs = wipe σ vs)
    (hs : ∀ (i : Nat) (x : V), xs[i]? = some x → ∀ H, Same H1 H → ∀ Q : Bool → Hp → Prop, (∀ H', Same H H' → Q false H') → tt ((wipe σ vs).set i0 (some x)) H Q) (hd : ∀ H, Same H1 H → H D = some (.lst []) → Qd H) :
    ∃ W : Nat → Nat → Hp → Prop, (∃ m, W 0 m (upd H1 D (.lst []))) ∧ ∀ i m H, W i m H →
      ((Itt K a).stop i H ∧ Qd H) ∨ ((Itt K a).go i H ∧ ∃ Nx : Hp → Prop, (∀ H', Nx H' → ∃ m', m' < m ∧ W (i + 1) m' H') ∧ ∀ x H', (Itt K a).yld i H x H' → gName i0 x (wipe σ vs) H' fun σ2 H2 => wipe σ2 vs = wipe σ vs ∧ tt σ2 H2 fun b H3 =>
        if b = true then te σ2 H3 fun y H4 => ∃ acc, H4 D = some (.lst acc) ∧ acc.length < sizeLine ∧ Nx (upd H4 D (.lst (acc ++ [y]))) else Nx H3) := by
  refine lc_tup (K := K) (a := a) (xs := xs) (fun i H => Same H1 H ∧ H D = some (.lst [])) ⟨same_new hD, upd_same⟩ (fun i H _ hp => hp.1.seqT hl) (fun i x H hx hp => ?_) (fun H hp => hd H hp.1 hp.2)
  refine ⟨hw x, hs i x hx H hp.1 _ fun H' e => ?_⟩
  rw [if_neg Bool.false_ne_true]
  exact ⟨hp.1.trans e, e _ _ hp.2⟩
theorem lc_mapR {n : Nat} {lo : Int} (hD : H1 D = none) (len : ys.length = n) (lt : n < 100000) (hw : ∀ x, wipe ((wipe σ vs).set i0 (some x)) vs = wipe σ vs)
    (hs : ∀ (i : Nat) (y : V), i < n → ys[i]? = some y → Gives te ((wipe σ vs).set i0 (some (.int (lo + i)))) H1 y) (hd : ∀ H, Same H1 H → H D = some (.lst ys) → Qd H) :
    ∃ W : Nat → Nat → Hp → Prop, (∃ m, W 0 m (upd H1 D (.lst []))) ∧ ∀ i m H, W i m H →
      ((Itr lo n).stop i H ∧ Qd H) ∨ ((Itr lo n).go i H ∧ ∃ Nx : Hp → Prop, (∀ H', Nx H' → ∃ m', m' < m ∧ W (i + 1) m' H') ∧ ∀ x H', (Itr lo n).yld i H x H' → gName i0 x (wipe σ vs) H' fun σ2 H2 => wipe σ2 vs = wipe σ vs ∧ tYes σ2 H2 fun b H3 =>
        if b = true then te σ2 H3 fun y H4 => ∃ acc, H4 D = some (.lst acc) ∧ acc.length < sizeLine ∧ Nx (upd H4 D (.lst (acc ++ [y]))) else Nx H3) := by
  refine lc_range (lo := lo) (n := n) (fun i H => Same H1 H ∧ H D = some (.lst (ys.take i))) ⟨same_new hD, upd_same⟩ (fun i H hi hp => ?_) (fun H hp => ?_)
  · have hy : ys[i]? = some (ys[i]'(by omega)) := List.getElem?_eq_getElem _
    refine ⟨hw _, ?_⟩
    dsimp only [tYes]
    rw [if_pos rfl]
    refine hs i _ hi hy H hp.1 _ fun H' e => ⟨ys.take i, e _ _ hp.2, ?_, same_over hD (hp.1.trans e), ?_⟩
    · refine small_of ?_
      rw [List.length_take]
      omega
    · rw [upd_same, take_up hy]
  · rw [← len, List.take_length] at hp
    exact hd H hp.1 hp.2
end

/-! ### the pen: what the script has told so far -/
/-- at p: the cells, how many were read (n at most), what is left of a great one -/
def Pen (H : Hp) (p : Addr) (n : Nat) : Prop := ∃ (L : Addr) (ns : List Int) (k : Nat) (r : Int), H p = some (.lst [.ref L, .int (k : Int), .int r]) ∧ H L = some (.lst (ns.map V.int)) ∧ p ≠ L ∧ ns.length ≤ 100 ∧ k ≤ n ∧ 0 ≤ r
/-- all but p is as it was -/
def Kp (p : Addr) (H H' : Hp) : Prop := ∀ b o, b ≠ p → H b = some o → H' b = some o
theorem Kp.refl (p : Addr) (H : Hp) : Kp p H H := fun _ _ _ h => h
theorem Kp.trans {p : Addr} {H H1 H2 : Hp} (a : Kp p H H1) (b : Kp p H1 H2) : Kp p H H2 := fun c o n h => b c o n (a c o n h)
theorem Kp.upd {p : Addr} {H : Hp} {o : HO} : Kp p H (upd H p o) := fun b u n h => by
  rw [upd_ne n]
  exact h
theorem _root_.L2.Same.kp {p : Addr} {H H' : Hp} (e : Same H H') : Kp p H H' := fun b o _ h => e b o h
theorem Pen.same {p : Addr} {n : Nat} {H H' : Hp} (h : Pen H p n) (e : Same H H') : Pen H' p n := by
  obtain ⟨L, ns, k, r, h1, h2, h3⟩ := h
  exact ⟨L, ns, k, r, e _ _ h1, e _ _ h2, h3⟩
theorem cut_int (ns : List Int) (k : Int) : ∃ ms : List Int, cutV (ns.map V.int) none (some k) = ms.map V.int ∧ ms.length ≤ ns.length := by
  unfold cutV
  refine ⟨((ns.drop (HT.sIx (ns.map V.int).length 0 none)).take (HT.sIx (ns.map V.int).length (ns.map V.int).length (some k) - HT.sIx (ns.map V.int).length 0 none)), ?_, ?_⟩
  · rw [List.map_take, List.map_drop]
  · rw [List.length_take, List.length_drop]
    omega
end BW
/-! What a reading evaluates to, told by a word about the value and the heap; making errors, their attributes, isinstance, != of equals. -/
namespace BW
open PySem PySem.Spec PyProof.Rows L2

/-! ### evaluates to something of which P holds -/
/-- P stays when more is known -/
def Mon (P : V → Hp → Prop) : Prop := ∀ v H H', Evl.Ex H H' → P v H → P v H'
def Evp (te : TE) (σ : L2.St) (H : Hp) (P : V → Hp → Prop) : Prop := ∀ H1, Evl.Ex H H1 → ∀ Q : VK, (∀ v H2, Evl.Ex H1 H2 → P v H2 → Q v H2) → te σ H1 Q
def Eap (ta : TA) (σ : L2.St) (H : Hp) (P : List V → Hp → Prop) : Prop := ∀ H1, Evl.Ex H H1 → ∀ Q : List V → Hp → Prop, (∀ vs H2, Evl.Ex H1 H2 → P vs H2 → Q vs H2) → ta σ H1 Q
section
variable {te ta tb : TE} {tr : TA} {σ : L2.St} {H H' : Hp} {P P' : V → Hp → Prop} {R R' : List V → Hp → Prop} {x v : V}
theorem Evp.mono (h : Evp te σ H P) (e : Evl.Ex H H') : Evp te σ H' P := fun H1 a Q q => h H1 (e.trans a) Q q
theorem Evp.imp (h : Evp te σ H P) (k : ∀ v H2, Evl.Ex H H2 → P v H2 → P' v H2) : Evp te σ H P' := fun H1 e Q q => h H1 e Q fun v H2 e2 p => q v H2 e2 (k v H2 (e.trans e2) p)
theorem evp_of (h : Evl.Ev te σ H x) : Evp te σ H (fun v _ => v = x) := fun H1 e Q q => h H1 e Q fun H2 e2 => q x H2 e2 rfl
theorem ev_of (h : Evp te σ H (fun v _ => v = x)) : Evl.Ev te σ H x := fun H1 e Q q => h H1 e Q fun v H2 e2 p => by
  subst p
  exact q H2 e2
theorem evp_ofL {xs : List V} (h : Evl.EvL te σ H xs) : Evp te σ H (fun v H2 => ∃ p, v = .ref p ∧ H2 p = some (.lst xs)) := fun H1 e Q q => h H1 e Q fun p H2 _ e2 hp => q (.ref p) H2 e2 ⟨p, rfl, hp⟩
theorem eap_nil : Eap tNil σ H (fun vs _ => vs = []) := fun H1 _ Q q => q [] H1 (Evl.Ex.refl H1) rfl
/-- a list of values, each with its word -/
inductive Alls : List (V → Hp → Prop) → List V → Hp → Prop where
  | nil {H : Hp} : Alls [] [] H
  | cons {P : V → Hp → Prop} {Ps : List (V → Hp → Prop)} {v : V} {vs : List V} {H : Hp} (h : P v H) (r : Alls Ps vs H) : Alls (P :: Ps) (v :: vs) H
theorem Alls.mono : ∀ {Ps : List (V → Hp → Prop)} {vs : List V} {H H' : Hp}, (∀ P ∈ Ps, Mon P) → Evl.Ex H H' → Alls Ps vs H → Alls Ps vs H'
  | _, _, _, _, _, _, .nil => .nil
  | _, _, _, _, m, e, .cons h r => .cons (m _ (List.mem_cons_self ..) _ _ _ e h) (Alls.mono (fun P hP => m P (List.mem_cons_of_mem _ hP)) e r)
theorem Alls.length : ∀ {Ps : List (V → Hp → Prop)} {vs : List V} {H : Hp}, Alls Ps vs H → vs.length = Ps.length
  | _, _, _, .nil => rfl
  | _, _, _, .cons _ r => congrArg Nat.succ r.length
theorem Alls.get : ∀ {Ps : List (V → Hp → Prop)} {vs : List V} {H : Hp} {i : Nat} {P : V → Hp → Prop}, Alls Ps vs H → Ps[i]? = some P → ∃ v, vs[i]? = some v ∧ P v H
  | _, _, _, _, _, .nil, h => by simp at h
  | _, _, _, 0, P, .cons h _, e => by
    have e2 : _ = P := Option.some.inj e
    subst e2
    exact ⟨_, rfl, h⟩
  | _, _, _, i + 1, P, .cons _ r, e => r.get (i := i) e
theorem Alls.append : ∀ {Ps Ps' : List (V → Hp → Prop)} {vs vs' : List V} {H : Hp}, Alls Ps vs H → Alls Ps' vs' H → Alls (Ps ++ Ps') (vs ++ vs') H
  | _, _, _, _, _, .nil, r => r
  | _, _, _, _, _, .cons h t, r => .cons h (t.append r)
theorem eap_cons {Ps : List (V → Hp → Prop)} (m : Mon P) (h : Evp te σ H P) (hr : Eap tr σ H (Alls Ps)) : Eap (tCons te tr) σ H (Alls (P :: Ps)) := fun H1 e Q q =>
  h H1 e _ fun v H2 e2 p => hr H2 (e.trans e2) _ fun vs H3 e3 r => q _ H3 (e2.trans e3) (.cons (m v H2 H3 e3 p) r)
theorem eap_nilA : Eap tNil σ H (Alls []) := fun H1 _ Q q => q [] H1 (Evl.Ex.refl H1) .nil
/-- a list of such values -/
def LstOf (Ps : List (V → Hp → Prop)) : V → Hp → Prop := fun v H => ∃ p vs, v = .ref p ∧ H p = some (.lst vs) ∧ Alls Ps vs H
def TupOf (Ps : List (V → Hp → Prop)) : V → Hp → Prop := fun v H => ∃ p vs, v = .ref p ∧ H p = some (.tup vs) ∧ Alls Ps vs H
theorem mon_lst {Ps : List (V → Hp → Prop)} (m : ∀ P ∈ Ps, Mon P) : Mon (LstOf Ps) := fun v H H' e h => by
  obtain ⟨p, vs, rfl, hp, r⟩ := h
  exact ⟨p, vs, rfl, e _ _ hp, r.mono m e⟩
theorem mon_tup {Ps : List (V → Hp → Prop)} (m : ∀ P ∈ Ps, Mon P) : Mon (TupOf Ps) := fun v H H' e h => by
  obtain ⟨p, vs, rfl, hp, r⟩ := h
  exact ⟨p, vs, rfl, e _ _ hp, r.mono m e⟩
theorem evp_lst {Ps : List (V → Hp → Prop)} (m : ∀ P ∈ Ps, Mon P) (h : Eap tr σ H (Alls Ps)) (hl : Ps.length ≤ 100000) : Evp (tLst tr) σ H (LstOf Ps) := fun H1 e Q q =>
  h H1 e _ fun vs H2 e2 r => ⟨by rw [r.length]; exact Evl.sz_of hl, fun p hp => q (.ref p) _ (e2.trans (Evl.Ex.new hp)) ⟨p, vs, rfl, upd_same, r.mono m (Evl.Ex.new hp)⟩⟩
theorem evp_tup {Ps : List (V → Hp → Prop)} (m : ∀ P ∈ Ps, Mon P) (h : Eap tr σ H (Alls Ps)) (hl : Ps.length ≤ 100000) : Evp (tTup tr) σ H (TupOf Ps) := fun H1 e Q q =>
  h H1 e _ fun vs H2 e2 r => ⟨by rw [r.length]; exact Evl.sz_of hl, fun p hp => q (.ref p) _ (e2.trans (Evl.Ex.new hp)) ⟨p, vs, rfl, upd_same, r.mono m (Evl.Ex.new hp)⟩⟩
/-- xs + ys -/
theorem evp_cat {Ps Ps' : List (V → Hp → Prop)} (m : ∀ P ∈ Ps, Mon P) (m' : ∀ P ∈ Ps', Mon P) (h : Evp ta σ H (LstOf Ps)) (h' : Evp tb σ H (LstOf Ps')) (hl : Ps.length + Ps'.length ≤ 100000) : Evp (tOp rCat ta tb) σ H (LstOf (Ps ++ Ps')) := fun H1 e Q q =>
  h H1 e _ fun v H2 e2 hv => h' H2 (e.trans e2) _ fun v' H3 e3 hv' => by
    obtain ⟨p, vs, rfl, hp, r⟩ := mon_lst m _ _ _ e3 hv
    obtain ⟨p', vs', rfl, hp', r'⟩ := hv'
    refine ⟨p, p', vs, vs', rfl, rfl, hp, hp', ?_, fun o no => q (.ref o) _ ((e2.trans e3).trans (Evl.Ex.new no)) ⟨o, vs ++ vs', rfl, upd_same, (r.mono m (Evl.Ex.new no)).append (r'.mono m' (Evl.Ex.new no))⟩⟩
    rw [r.length, r'.length]
    exact Evl.sz_of hl
end

/-! ### errors as values -/
/-- an instance of the error class at C with the attributes fs -/
def ErrV (C : Addr) (fs : List (Str × V)) : V → Hp → Prop := fun v H => ∃ a d, v = .ref a ∧ H a = some (exo a C (some d)) ∧ H d = some (exd d fs)
theorem mon_err {C : Addr} {fs : List (Str × V)} : Mon (ErrV C fs) := fun v H H' e h => by
  obtain ⟨a, d, rfl, h1, h2⟩ := h
  exact ⟨a, d, rfl, e _ _ h1, e _ _ h2⟩
/-- an __init__ of one field, of two -/
def spI1 (K : PySem.W.Frag) (f : Str) : Sp := fun vs H Q _ => ∃ (a C : Addr) (x : V), vs = [.ref a, x] ∧ OexC K C ∧ PySem.W.findIn K (.ref C) f = some none ∧ H a = some (exo a C none) ∧
  ∀ d H', H d = none → d ≠ a → (∀ b o, b ≠ a → H b = some o → H' b = some o) → H' a = some (exo a C (some d)) → H' d = some (exd d [(f, x)]) → Q .non H'
def spI2 (K : PySem.W.Frag) (f g : Str) : Sp := fun vs H Q _ => ∃ (a C : Addr) (x y : V), vs = [.ref a, x, y] ∧ OexC K C ∧ PySem.W.findIn K (.ref C) f = some none ∧ PySem.W.findIn K (.ref C) g = some none ∧ H a = some (exo a C none) ∧
  ∀ d H', H d = none → d ≠ a → (∀ b o, b ≠ a → H b = some o → H' b = some o) → H' a = some (exo a C (some d)) → H' d = some (exd d [(g, y), (f, x)]) → Q .non H'
section
variable {σ : L2.St} {H : Hp} {te tu : TE} {x y : V} {K : PySem.W.Frag} {C : Addr} {f g : Str}
theorem kept_new {H H' : Hp} {a C : Addr} (na : H a = none) (k : ∀ b o, b ≠ a → upd H a (exo a C none) b = some o → H' b = some o) : Evl.Ex H H' := fun b o h => by
  have nb : b ≠ a := ne_of_none h na
  exact k b o nb (by rw [upd_ne nb]; exact h)
theorem evp_mk1 (O : OexC K C) (no : PySem.W.findIn K (.ref C) f = some none) (h : Evl.Ev te σ H x) : Evp (tMkV C 1 0 (spI1 K f) (fun vs _ => vs) (tCons te tNil) tNil) σ H (ErrV C [(f, x)]) := fun H1 e Q q =>
  h H1 e _ fun H2 e2 => ⟨rfl, rfl, fun a na => ⟨a, C, x, rfl, O, no, upd_same, fun d H' nd _ k h1 h2 => ⟨rfl, q (.ref a) H' (e2.trans (kept_new na k)) ⟨a, d, rfl, h1, h2⟩⟩⟩⟩
theorem evp_mk1k (O : OexC K C) (no : PySem.W.findIn K (.ref C) f = some none) (h : Evl.Ev te σ H x) : Evp (tMkV C 0 1 (spI1 K f) (fun vs zs => vs ++ zs) tNil (tCons te tNil)) σ H (ErrV C [(f, x)]) := fun H1 e Q q =>
  h H1 e _ fun H2 e2 => ⟨rfl, rfl, fun a na => ⟨a, C, x, rfl, O, no, upd_same, fun d H' nd _ k h1 h2 => ⟨rfl, q (.ref a) H' (e2.trans (kept_new na k)) ⟨a, d, rfl, h1, h2⟩⟩⟩⟩
theorem evp_mk2 (O : OexC K C) (no : PySem.W.findIn K (.ref C) f = some none) (no' : PySem.W.findIn K (.ref C) g = some none) (h : Evl.Ev te σ H x) (h' : Evl.Ev tu σ H y) :
    Evp (tMkV C 2 0 (spI2 K f g) (fun vs _ => vs) (tCons te (tCons tu tNil)) tNil) σ H (ErrV C [(g, y), (f, x)]) := fun H1 e Q q =>
  h H1 e _ fun H2 e2 => h' H2 (e.trans e2) _ fun H3 e3 => ⟨rfl, rfl, fun a na => ⟨a, C, x, y, rfl, O, no, no', upd_same, fun d H' nd _ k h1 h2 => ⟨rfl, q (.ref a) H' ((e2.trans e3).trans (kept_new na k)) ⟨a, d, rfl, h1, h2⟩⟩⟩⟩
/-- the keywords the other way about -/
theorem evp_mk2k (O : OexC K C) (no : PySem.W.findIn K (.ref C) f = some none) (no' : PySem.W.findIn K (.ref C) g = some none) (h' : Evl.Ev tu σ H y) (h : Evl.Ev te σ H x) :
    Evp (tMkV C 0 2 (spI2 K f g) (fun vs zs => vs ++ zs.reverse) tNil (tCons tu (tCons te tNil))) σ H (ErrV C [(g, y), (f, x)]) := fun H1 e Q q =>
  h' H1 e _ fun H2 e2 => h H2 (e.trans e2) _ fun H3 e3 => ⟨rfl, rfl, fun a na => ⟨a, C, x, y, rfl, O, no, no', upd_same, fun d H' nd _ k h1 h2 => ⟨rfl, q (.ref a) H' ((e2.trans e3).trans (kept_new na k)) ⟨a, d, rfl, h1, h2⟩⟩⟩⟩
/-- e.f -/
theorem ev_xa {fs : List (Str × V)} (X : XfC K C) (no : PySem.W.findIn K (.ref C) f = some none) (h : Evp te σ H (ErrV C fs)) (hl : fs.lookup f = some x) : Evl.Ev (tXA K f te) σ H x := fun H1 e Q q =>
  h H1 e _ fun v H2 e2 hv => by
    obtain ⟨a, d, rfl, h1, h2⟩ := hv
    exact ⟨a, C, d, fs, x, rfl, h1, h2, X, no, hl, q H2 e2⟩
/-- x != y of the same value -/
theorem ev_neS (h : Evl.Ev te σ H x) (h' : Evl.Ev tu σ H x) (hs : SelfNe K H x) : Evl.Ev (tOp (rNeS K) te tu) σ H (.bl false) := fun H1 e Q q =>
  h H1 e _ fun H2 e2 => h' H2 (e.trans e2) _ fun H3 e3 => ⟨rfl, hs.same ((e.trans e2).trans e3), q H3 (e2.trans e3)⟩
theorem rc_isX {a d D : Addr} {fs : List (Str × V)} {b : Bool} {c : V} {cv : Value} (h1 : H a = some (exo a C (some d))) (h2 : H d = some (exd d fs)) (S : ExcC K C) (k : ClsV c cv) (hk : PySem.W.kitOne K (.ref C) cv = some b) :
    Evl.RC (rIsX K) [.ref a, c] H (.bl b) := fun H1 e Q q => ⟨a, C, d, fs, c, cv, b, rfl, e _ _ h1, e _ _ h2, S, k, hk, q H1 (Evl.Ex.refl H1)⟩
end

/-! ### an error without an __init__ of its own, made with nothing -/
theorem pe_exc0 {X : Cx} {C : Addr} {bmB : List Value} {B newId initId : String} {x : Str} {p pos : Pos} (F : ExcBaseFacts B newId initId bmB) (q : PySem.W.excIn X.K C bmB newId = true) (gC : X.mg x = some (.ref C)) (kC : PySem.W.keepIn X.K (.ref C) = true) (hg : Gl X x)
    (hdb : (x == ("__debug__" : Str)) = false := by decide) : PE X (.Call (.Name x p) [] [] pos) (fun _ H Q => ∀ a, H a = none → Q (.ref a) (upd H a (ExO (.ref C) a))) := by
  refine ⟨fun pins s σ H Q I h => ?_⟩
  refine wpAny_Call_Name_kw (ld_glob I hg gC ?_ hdb)
  refine PySem.W.callWith_K0 I.kIn kC ?_
  show wpAny _ _ (call (.ref C) []) _ _ _
  obtain ⟨bm, N, nm, qn, bs, hdct, sn, sub, ab, col, dd, k0, k1, k2, k3, k5, mN, hC, hN, hni, T⟩ := exc_obj I.kIn q
  refine wpAny_call_exc_subT F T hC hN hni (fun h' a hm => ?_) (Nat.zero_le _)
  have hn : H a = none := I.hok.gone hm.new
  obtain ⟨t, ht, _, _⟩ := hm.there
  exact ⟨.ref a, upd H a (ExO (.ref C) a), I.laidN hm.keeps hm.new hn (exO_ok ht ⟨rfl, rfl⟩ rfl rfl rfl (show 4 < 6 by decide)), rfl, h a hn⟩
def ErrO (C : Addr) : V → Hp → Prop := fun v H => ∃ a, v = .ref a ∧ H a = some (ExO (.ref C) a)
theorem mon_errO {C : Addr} : Mon (ErrO C) := fun v H H' e h => by
  obtain ⟨a, rfl, h1⟩ := h
  exact ⟨a, rfl, e _ _ h1⟩
theorem evp_exc0 {C : Addr} {σ : L2.St} {H : Hp} : Evp (fun _ H Q => ∀ a, H a = none → Q (.ref a) (upd H a (ExO (.ref C) a))) σ H (ErrO C) := fun H1 e Q q a na =>
  q (.ref a) _ (Evl.Ex.new na) ⟨a, rfl, upd_same⟩
/-- an instance of the error class at C, with attributes or without -/
def Err (C : Addr) : V → Hp → Prop := fun v H => (∃ fs, ErrV C fs v H) ∨ ErrO C v H
theorem mon_errA {C : Addr} : Mon (Err C) := fun v H H' e h => by
  rcases h with ⟨fs, h⟩ | h
  · exact .inl ⟨fs, mon_err _ _ _ e h⟩
  · exact .inr (mon_errO _ _ _ e h)
def rIsA (K : PySem.W.Frag) : List V → Hp → VK → Prop := fun xs H Q => ∃ (x : V) (C : Addr) (c : V) (cv : Value) (b : Bool), xs = [x, c] ∧ Err C x H ∧ ExcC K C ∧ ClsV c cv ∧ PySem.W.kitOne K (.ref C) cv = some b ∧ Q (.bl b) H
def rIsAT (K : PySem.W.Frag) : List V → Hp → VK → Prop := fun xs H Q => ∃ (x : V) (C : Addr) (tp : Addr) (cs : List V) (us : List Value) (b : Bool),
  xs = [x, .ref tp] ∧ Err C x H ∧ ExcC K C ∧ H tp = some (.tup cs) ∧ Paired ClsV cs us ∧ PySem.W.kitAny K (.ref C) us = some b ∧ Q (.bl b) H
section
variable {X : Cx}
theorem call_isA : CallR X (.builtin "isinstance") (rIsA X.K) := by
  intro pins s σ H xs us Q I r h
  obtain ⟨x, C, c, cv, b, rfl, hx, T, k, e, q⟩ := h
  rcases hx with ⟨fs, a, d, rfl, ea, ed⟩ | ⟨a, rfl, ea⟩
  · exact call_isX pins s σ H _ us Q I r ⟨a, C, d, fs, c, cv, b, rfl, ea, ed, T, k, e, q⟩
  · obtain ⟨u1, u2, rfl, r1, r2⟩ := vals2 r
    obtain rfl := k.eq r2
    cases (show u1 = Value.ref a from r1)
    obtain ⟨⟨oe, vs, ho, hz, hd, _⟩, _, _⟩ := I.hok a _ ea
    have J : PySem.W.InstAt s.heap a oe C none := by
      obtain ⟨oc, od, oda, osl⟩ := oe
      obtain ⟨h1, h2⟩ := hz
      dsimp only at h1 h2 hd
      subst h1 h2 hd
      exact ⟨ho, rfl, rfl, trivial⟩
    exact PySem.W.kia_one (PySem.W.handS_kitx_exc T.hg T.hk T.hs T.hd T.ha T.hn T.ht T.hm) I.kIn J e (fun z => nomatch z) fun tk => ⟨.bl b, H, I.tok tk, rfl, q⟩
theorem call_isAT : CallR X (.builtin "isinstance") (rIsAT X.K) := by
  intro pins s σ H xs us Q I r h
  obtain ⟨x, C, tp, cs, ws, b, rfl, hx, T, hT, k, e, q⟩ := h
  rcases hx with ⟨fs, a, d, rfl, ea, ed⟩ | ⟨a, rfl, ea⟩
  · exact call_isXT pins s σ H _ us Q I r ⟨a, C, d, fs, tp, cs, ws, b, rfl, ea, ed, T, hT, k, e, q⟩
  · obtain ⟨u1, u2, rfl, r1, r2⟩ := vals2 r
    cases (show u1 = Value.ref a from r1)
    cases (show u2 = Value.ref tp from r2)
    obtain ⟨⟨oe, vs, ho, hz, hd, _⟩, _, _⟩ := I.hok a _ ea
    have J : PySem.W.InstAt s.heap a oe C none := by
      obtain ⟨oc, od, oda, osl⟩ := oe
      obtain ⟨h1, h2⟩ := hz
      dsimp only at h1 h2 hd
      subst h1 h2 hd
      exact ⟨ho, rfl, rfl, trivial⟩
    have hx : ObjOk X.prog X.w H s.heap tp (.tup cs) := I.hok tp _ hT
    obtain ⟨_, its, rv, ot, g1, g2, n, g3⟩ := hx
    obtain rfl := ClsV.all k rv
    obtain ⟨oc, dd, dt, sl⟩ := ot
    dsimp only at g2 g3
    subst g2
    subst g3
    exact PySem.W.kia_tup (PySem.W.handS_kitx_exc T.hg T.hk T.hs T.hd T.ha T.hn T.ht T.hm) I.kIn J g1 e (fun z => nomatch z) fun tk => ⟨.bl b, H, I.tok tk, rfl, q⟩
end
theorem rc_isA {K : PySem.W.Frag} {H : Hp} {C : Addr} {b : Bool} {x c : V} {cv : Value} (h : Err C x H) (S : ExcC K C) (k : ClsV c cv) (hk : PySem.W.kitOne K (.ref C) cv = some b) : Evl.RC (rIsA K) [x, c] H (.bl b) := fun H1 e Q q =>
  ⟨x, C, c, cv, b, rfl, mon_errA _ _ _ e h, S, k, hk, q H1 (Evl.Ex.refl H1)⟩
end BW
/-! Statements and loops over what a reading evaluates to; classes of errors with one field or two. -/
namespace BW
open PySem PySem.Spec PyProof.Rows L2
section
variable {te ta tb tl : TE} {tr : TA} {σ : L2.St} {H H' : Hp} {P P' : V → Hp → Prop} {x v : V} {D : Ends} {tu tz : TS} {K : PySem.W.Frag}
theorem evp_var {i : Nat} (m : Mon P) (h : σ[i]? = some (some v)) (p : P v H) : Evp (tVar i) σ H P := fun H1 e Q q => ⟨v, h, q v H1 (Evl.Ex.refl H1) (m _ _ _ e p)⟩
theorem s_asgP {i : Nat} (h : Evp te σ H P) (k : ∀ v H1, Evl.Ex H H1 → P v H1 → D.nx (σ.set i (some v)) H1) : tAsg te (gName i) D σ H := h H (Evl.Ex.refl H) _ k
theorem q_asgP {i : Nat} (h : Evp te σ H P) (k : ∀ v H1, Evl.Ex H H1 → P v H1 → tz D (σ.set i (some v)) H1) : tSeq (tAsg te (gName i)) tz D σ H := s_asgP (D := { D with nx := tz D }) h k
theorem s_retP (h : Evp te σ H P) (k : ∀ v H1, Evl.Ex H H1 → P v H1 → D.rt v H1) : tRet te D σ H := h H (Evl.Ex.refl H) _ k
/-- xs[i] of a list of values with words -/
theorem item_of {Ps : List (V → Hp → Prop)} {i : Nat} (hv : LstOf Ps v H) (hi : Ps[i]? = some P) : ∃ y, P y H ∧ ∀ {H1 : Hp}, Evl.Ex H H1 → Evl.RV (rIxL K) v (.int (i : Int)) H1 y := by
  obtain ⟨p, vs, rfl, hp, r⟩ := hv
  obtain ⟨y, hy, py⟩ := r.get hi
  exact ⟨y, py, fun e => Evl.rv_ixL (Evl.sq_of (e _ _ hp)) (atI_nat hy)⟩
theorem evp_ev (m : Mon P) (h : Evl.Ev te σ H x) (p : P x H) : Evp te σ H P := fun H1 e Q q => h H1 e _ fun H2 e2 => q x H2 e2 (m _ _ _ (e.trans e2) p)
/-- a loop over a tuple that is made on the way -/
theorem q_forTp {Ps : List (V → Hp → Prop)} {j : Nat} (m : ∀ P ∈ Ps, Mon P) (h : Evp tl σ H (TupOf Ps)) (Pv : Nat → L2.St → Hp → Prop) (h0 : ∀ H1, Evl.Ex H H1 → Pv 0 σ H1)
    (hs : ∀ (H1 : Hp), Evl.Ex H H1 → ∀ (i : Nat) (x : V) (P : V → Hp → Prop) (σ' : L2.St) (H' : Hp), Ps[i]? = some P → P x H' → Evl.Ex H1 H' → Pv i σ' H' →
      tu { D with nx := fun σ2 H2 => Evl.Ex H1 H2 ∧ Pv (i + 1) σ2 H2, ct := fun σ2 H2 => Evl.Ex H1 H2 ∧ Pv (i + 1) σ2 H2, bk := tz D } (σ'.set j (some x)) H') (hd : ∀ (H1 : Hp), Evl.Ex H H1 → ∀ (σ' : L2.St) (H' : Hp), Evl.Ex H1 H' → Pv Ps.length σ' H' → tz D σ' H') :
    tSeq (tFor (iTup K tl) (gName j) tu) tz D σ H := h H (Evl.Ex.refl H) _ fun v H1 e hv => by
  obtain ⟨p, vs, rfl, hp, r⟩ := hv
  refine ⟨p, rfl, ⟨vs, Evl.st_of hp⟩, for_tup (xs := vs) (D := { D with nx := tz D }) (fun i σ' H' => Evl.Ex H1 H' ∧ Pv i σ' H') ⟨Evl.Ex.refl H1, h0 H1 e⟩ (fun i σ' H' _ q => Evl.ex_t q.1 (Evl.st_of hp)) (fun i x σ' H' hi q => ?_)
    (fun σ' H' q => hd H1 e σ' H' q.1 (by rw [← r.length]; exact q.2))⟩
  have hlt : i < Ps.length := by
    rw [← r.length]
    exact (List.getElem?_eq_some_iff.mp hi).1
  obtain ⟨y, hy, py⟩ := r.get (List.getElem?_eq_getElem hlt)
  obtain rfl : x = y := Option.some.inj (hi.symm.trans hy)
  exact hs H1 e i x _ σ' H' (List.getElem?_eq_getElem hlt) (m _ (List.getElem_mem hlt) _ _ _ q.1 py) q.1 q.2
end

/-! ### classes of errors -/
section
variable {P : Program} {w : World} {K : PySem.W.Frag} {mg : Str → Option Value} {base : Heap}
theorem kb_pos {x qual : Str} {st : Stmt} {f : Addr} {fd : FuncData} {ps : List Str} (F : Fun K x qual st f fd) (n : Nat)
    (h : ∀ (kV doc pm : Value) (an : Option Addr) (cdv ct : Value) (us : List Value), us.length = n → bindArgs (PySem.W.fnOf x qual (defArgs st) (defBody st) (defScope st) .none kV doc pm an cdv ct) ⟨us, []⟩ = pure (ps.zip us)) :
    KBn K fd ps n [] (fun us _ => us) (fun vs _ => vs) := by
  obtain ⟨oc, od, kV, doc, pm, an, cdv, ct, osl, rfl, lk, hcd⟩ := F.ex
  exact ⟨fun s us ws X l1 l2 => BindsTo.of_eq (h kV doc pm an cdv ct us l1), fun r _ => r⟩
theorem kb_kw1 {x qual : Str} {st : Stmt} {f : Addr} {fd : FuncData} {ps ks : List Str} (F : Fun K x qual st f fd)
    (h : ∀ (kV doc pm : Value) (an : Option Addr) (cdv ct : Value) (us ws : List Value), us.length = 1 → ws.length = ks.length → bindArgs (PySem.W.fnOf x qual (defArgs st) (defBody st) (defScope st) .none kV doc pm an cdv ct) ⟨us, ks.zip ws⟩ = pure (ps.zip (us ++ ws))) :
    KBn K fd ps 1 ks (fun us ws => us ++ ws) (fun vs zs => vs ++ zs) := by
  obtain ⟨oc, od, kV, doc, pm, an, cdv, ct, osl, rfl, lk, hcd⟩ := F.ex
  exact ⟨fun s us ws X l1 l2 => BindsTo.of_eq (h kV doc pm an cdv ct us ws l1 l2), fun r r2 => r.append r2⟩
theorem vals_rev : ∀ {xs : List V} {us : List Value}, Vals xs us → Vals xs.reverse us.reverse
  | _, _, .nil => .nil
  | _, _, .cons (l₁ := xs) (l₂ := us) (a := x) (b := u) r t => by
    rw [List.reverse_cons, List.reverse_cons]
    exact (vals_rev t).append (.cons r .nil)
theorem kb_kwR {x qual : Str} {st : Stmt} {f : Addr} {fd : FuncData} {ps ks : List Str} (F : Fun K x qual st f fd)
    (h : ∀ (kV doc pm : Value) (an : Option Addr) (cdv ct : Value) (us ws : List Value), us.length = 1 → ws.length = ks.length → bindArgs (PySem.W.fnOf x qual (defArgs st) (defBody st) (defScope st) .none kV doc pm an cdv ct) ⟨us, ks.zip ws⟩ = pure (ps.zip (us ++ ws.reverse))) :
    KBn K fd ps 1 ks (fun us ws => us ++ ws.reverse) (fun vs zs => vs ++ zs.reverse) := by
  obtain ⟨oc, od, kV, doc, pm, an, cdv, ct, osl, rfl, lk, hcd⟩ := F.ex
  exact ⟨fun s us ws X l1 l2 => BindsTo.of_eq (h kV doc pm an cdv ct us ws l1 l2), fun r r2 => r.append (vals_rev r2)⟩
/-- a class of errors with one field -/
structure E1 (P : Program) (w : World) (K : PySem.W.Frag) (mg : Str → Option Value) (base : Heap) (nm f0 : Str) (C : Addr) : Prop where
  g : mg nm = some (.ref C)
  O : OexC K C
  X : XfC K C
  no : PySem.W.findIn K (.ref C) f0 = some none
  made : ∃ (fI : Addr) (fd : FuncData), PySem.W.findIn K (.ref C) "__init__" = some (some (.ref fI)) ∧ PySem.W.typeIn K (.ref fI) = some (.type "function") ∧ FnOk P w K mg base CX0 1 fI fd ["self", f0] (spI1 K f0) ∧
    KBn K fd ["self", f0] 2 [] (fun us _ => us) (fun vs _ => vs) ∧ KBn K fd ["self", f0] 1 [f0] (fun us ws => us ++ ws) (fun vs zs => vs ++ zs)
/-- with two -/
structure E2 (P : Program) (w : World) (K : PySem.W.Frag) (mg : Str → Option Value) (base : Heap) (nm f0 f1 : Str) (C : Addr) : Prop where
  g : mg nm = some (.ref C)
  O : OexC K C
  X : XfC K C
  no : PySem.W.findIn K (.ref C) f0 = some none
  no1 : PySem.W.findIn K (.ref C) f1 = some none
  made : ∃ (fI : Addr) (fd : FuncData), PySem.W.findIn K (.ref C) "__init__" = some (some (.ref fI)) ∧ PySem.W.typeIn K (.ref fI) = some (.type "function") ∧ FnOk P w K mg base CX0 1 fI fd ["self", f0, f1] (spI2 K f0 f1) ∧
    KBn K fd ["self", f0, f1] 3 [] (fun us _ => us) (fun vs _ => vs) ∧ KBn K fd ["self", f0, f1] 1 [f1, f0] (fun us ws => us ++ ws.reverse) (fun vs zs => vs ++ zs.reverse)
end
section
variable {X : Cx} {nm f0 f1 : Str} {C : Addr} {p pos kpos kpos' : Pos} {e e' : Expr} {te te' : TE}
theorem pe_e1 (h : E1 X.prog X.w X.K X.mg X.base nm f0 C) (hr : Room 2 X.A) (ha : PE X e te) (hg : Gl X nm := by rfl) (hdb : (nm == ("__debug__" : Str)) = false := by decide)
    (he : starEach (e :: []) X.env = (false, eval e X.env) :: starEach [] X.env := by rfl) : PE X (.Call (.Name nm p) [e] [] pos) (tMkV C 1 0 (spI1 X.K f0) (fun vs _ => vs) (tCons te tNil) tNil) := by
  obtain ⟨fI, fd, iC, tI, F, b, _⟩ := h.made
  exact pe_mkV h.O iC tI F hr b pass0 (by decide) hg h.g (pa_cons ha pa_nil he) hdb he
theorem pe_e1k (h : E1 X.prog X.w X.K X.mg X.base nm f0 C) (hr : Room 2 X.A) (ha : PE X e te) (hg : Gl X nm := by rfl) (hdb : (nm == ("__debug__" : Str)) = false := by decide) :
    PE X (.Call (.Name nm p) [] [⟨some f0, e, kpos⟩] pos) (tMkV C 0 1 (spI1 X.K f0) (fun vs zs => vs ++ zs) tNil (tCons te tNil)) := by
  obtain ⟨fI, fd, iC, tI, F, _, b⟩ := h.made
  exact pe_mkVk h.O iC tI F hr b pass0 hg h.g (pk_cons ha pk_nil) rfl rfl hdb rfl
theorem pe_e2 (h : E2 X.prog X.w X.K X.mg X.base nm f0 f1 C) (hr : Room 2 X.A) (ha : PE X e te) (ha' : PE X e' te') (hg : Gl X nm := by rfl) (hdb : (nm == ("__debug__" : Str)) = false := by decide)
    (he : starEach (e :: [e']) X.env = (false, eval e X.env) :: starEach [e'] X.env := by rfl) (he' : starEach (e' :: []) X.env = (false, eval e' X.env) :: starEach [] X.env := by rfl) (hpl : (backTo pos (starEach [e'] X.env)).any (·.1) = false := by rfl) :
    PE X (.Call (.Name nm p) [e, e'] [] pos) (tMkV C 2 0 (spI2 X.K f0 f1) (fun vs _ => vs) (tCons te (tCons te' tNil)) tNil) := by
  obtain ⟨fI, fd, iC, tI, F, b, _⟩ := h.made
  exact pe_mkV h.O iC tI F hr b pass0 (by decide) hg h.g (pa_cons ha (pa_cons ha' pa_nil he') he) hdb he hpl
/-- C(f1 = e', f0 = e) -/
theorem pe_e2k (h : E2 X.prog X.w X.K X.mg X.base nm f0 f1 C) (hr : Room 2 X.A) (ha' : PE X e' te') (ha : PE X e te) (hg : Gl X nm := by rfl) (hdb : (nm == ("__debug__" : Str)) = false := by decide) :
    PE X (.Call (.Name nm p) [] [⟨some f1, e', kpos'⟩, ⟨some f0, e, kpos⟩] pos) (tMkV C 0 2 (spI2 X.K f0 f1) (fun vs zs => vs ++ zs.reverse) tNil (tCons te' (tCons te tNil))) := by
  obtain ⟨fI, fd, iC, tI, F, _, b⟩ := h.made
  exact pe_mkVk h.O iC tI F hr b pass0 hg h.g (pk_cons ha' (pk_cons ha pk_nil)) rfl rfl hdb rfl
end
end BW
/-! What the written part says of classes of errors, as one look each. -/
namespace BW
open PySem PySem.Spec PyProof.Rows L2
/-- the class at C, its instances' attributes flds being no names of the class -/
def clsB (K : PySem.W.Frag) (C : Addr) (flds : List Str) : Bool :=
  decide (PySem.W.findIn K (.ref C) "__setattr__" = some (some (.builtin "object.__setattr__"))) && (decide (PySem.W.subIn K (.ref C) (.type "BaseException") = some true) && (decide (PySem.W.typeIn K (.ref C) = some (.type "type")) && (PySem.W.keepIn K (.ref C) &&
  (decide (PySem.W.findIn K (.ref C) "__getattribute__" = some (some (.builtin "BaseException.__getattribute__"))) && (decide (PySem.W.findIn K (.ref C) "__getattr__" = some none) && (PySem.W.hasDictIn K C && (decide (PySem.W.findIn K (.ref C) "__class__" = some (some (.builtin "object.__class__"))) &&
  (decide (PySem.W.findIn K (.ref C) "__eq__" = some (some (.builtin "object.__eq__"))) && (decide (PySem.W.findIn K (.ref C) "__ne__" = some (some (.builtin "object.__ne__"))) && (decide (PySem.W.mroIn K C (.type "object") = some true) && flds.all fun f => decide (PySem.W.findIn K (.ref C) f = some none)))))))))))
structure ClsOk (K : PySem.W.Frag) (C : Addr) (flds : List Str) : Prop where
  sa : PySem.W.findIn K (.ref C) "__setattr__" = some (some (.builtin "object.__setattr__"))
  ex : PySem.W.subIn K (.ref C) (.type "BaseException") = some true
  ty : PySem.W.typeIn K (.ref C) = some (.type "type")
  kp : PySem.W.keepIn K (.ref C) = true
  ga : PySem.W.findIn K (.ref C) "__getattribute__" = some (some (.builtin "BaseException.__getattribute__"))
  gg : PySem.W.findIn K (.ref C) "__getattr__" = some none
  hd : PySem.W.hasDictIn K C = true
  ha : PySem.W.findIn K (.ref C) "__class__" = some (some (.builtin "object.__class__"))
  eq : PySem.W.findIn K (.ref C) "__eq__" = some (some (.builtin "object.__eq__"))
  ne : PySem.W.findIn K (.ref C) "__ne__" = some (some (.builtin "object.__ne__"))
  ob : PySem.W.mroIn K C (.type "object") = some true
  no : ∀ f ∈ flds, PySem.W.findIn K (.ref C) f = some none
theorem clsB_ok {K : PySem.W.Frag} {C : Addr} {flds : List Str} (h : clsB K C flds = true) : ClsOk K C flds := by
  unfold clsB at h
  simp only [Bool.and_eq_true, decide_eq_true_eq, List.all_eq_true] at h
  obtain ⟨h1, h2, h3, h4, h5, h6, h7, h8, h9, h10, h11, h12⟩ := h
  exact ⟨h1, h2, h3, h4, h5, h6, h7, h8, h9, h10, h11, h12⟩
section
variable {K : PySem.W.Frag} {C : Addr} {flds : List Str}
theorem ClsOk.oex (h : ClsOk K C flds) {nm q : Str} {N : Addr} {bs bm : List Value} {sn : List Str} {sub : List Value} {ab : Bool} {col : Option Bool} {dd : Option Addr} {k0 k1 k2 k3 k5 : Option Value}
    (o : K.lookup C = some (excClassObj nm q C N bs bm true sn sub ab col dd k0 k1 k2 k3 k5 "ValueError.__new__")) (r : PySem.HandSPX.refsVE bm = true) : OexC K C :=
  ⟨⟨nm, q, N, bs, bm, sn, sub, ab, col, dd, k0, k1, k2, k3, k5, o, r⟩, h.sa, h.ex, h.ty, h.kp⟩
theorem ClsOk.xf (h : ClsOk K C flds) : XfC K C := ⟨h.ga, h.gg, h.ex, h.hd⟩
theorem ClsOk.exc (h : ClsOk K C flds) (hn : PySem.W.specialIn K (.builtin "object.__class__") "__get__" = some (some (.builtin "getset_descriptor.__get__"))) (ht : PySem.W.takesIn K (.builtin "object.__class__") = some true) : ExcC K C := ⟨h.ga, h.gg, h.ex, h.hd, h.ha, hn, ht, h.ob⟩
theorem ClsOk.nes (h : ClsOk K C flds) : ExcNe K C := ⟨h.eq, h.ne, h.ob⟩
end
section
variable {P : Program} {w : World} {K : PySem.W.Frag} {mg : Str → Option Value} {base : Heap}
theorem e1_mk {nm f0 qual : Str} {st : Stmt} {C I : Addr} {fd : FuncData} (g : mg nm = some (.ref C)) (O : OexC K C) (b : ClsOk K C [f0]) (i : PySem.W.findIn K (.ref C) "__init__" = some (some (.ref I))) (t : PySem.W.typeIn K (.ref I) = some (.type "function")) (F : Fun K "__init__" qual st I fd)
    (ok : FnOk P w K mg base CX0 1 I fd ["self", f0] (spI1 K f0))
    (hb : ∀ (kV doc pm : Value) (an : Option Addr) (cdv ct : Value) (us : List Value), us.length = 2 → bindArgs (PySem.W.fnOf "__init__" qual (defArgs st) (defBody st) (defScope st) .none kV doc pm an cdv ct) ⟨us, []⟩ = pure ((["self", f0] : List Str).zip us))
    (hk : ∀ (kV doc pm : Value) (an : Option Addr) (cdv ct : Value) (us ws : List Value), us.length = 1 → ws.length = ([f0] : List Str).length → bindArgs (PySem.W.fnOf "__init__" qual (defArgs st) (defBody st) (defScope st) .none kV doc pm an cdv ct) ⟨us, ([f0] : List Str).zip ws⟩ = pure ((["self", f0] : List Str).zip (us ++ ws))) :
    E1 P w K mg base nm f0 C := ⟨g, O, b.xf, b.no f0 (List.mem_cons_self ..), I, fd, i, t, ok, kb_pos F 2 hb, kb_kw1 F hk⟩
theorem e2_mk {nm f0 f1 qual : Str} {st : Stmt} {C I : Addr} {fd : FuncData} (g : mg nm = some (.ref C)) (O : OexC K C) (b : ClsOk K C [f0, f1]) (i : PySem.W.findIn K (.ref C) "__init__" = some (some (.ref I))) (t : PySem.W.typeIn K (.ref I) = some (.type "function")) (F : Fun K "__init__" qual st I fd)
    (ok : FnOk P w K mg base CX0 1 I fd ["self", f0, f1] (spI2 K f0 f1))
    (hb : ∀ (kV doc pm : Value) (an : Option Addr) (cdv ct : Value) (us : List Value), us.length = 3 → bindArgs (PySem.W.fnOf "__init__" qual (defArgs st) (defBody st) (defScope st) .none kV doc pm an cdv ct) ⟨us, []⟩ = pure ((["self", f0, f1] : List Str).zip us))
    (hk : ∀ (kV doc pm : Value) (an : Option Addr) (cdv ct : Value) (us ws : List Value), us.length = 1 → ws.length = ([f1, f0] : List Str).length → bindArgs (PySem.W.fnOf "__init__" qual (defArgs st) (defBody st) (defScope st) .none kV doc pm an cdv ct) ⟨us, ([f1, f0] : List Str).zip ws⟩ = pure ((["self", f0, f1] : List Str).zip (us ++ ws.reverse))) :
    E2 P w K mg base nm f0 f1 C := ⟨g, O, b.xf, b.no f0 (List.mem_cons_self ..), b.no f1 (List.mem_cons_of_mem _ (List.mem_cons_self ..)), I, fd, i, t, ok, kb_pos F 3 hb, kb_kwR F hk⟩
end
end BW
/-! A comprehension over a new tuple that takes nothing; != of two new empty lists; loops over a list of pairs. -/
namespace BW
open PySem PySem.Spec PyProof.Rows L2
section
variable {te ta tb tl : TE} {tt : TT} {tr : TA} {σ : L2.St} {H H' : Hp} {P P' : V → Hp → Prop} {x v : V} {D : Ends} {tu tz : TS} {K : PySem.W.Frag}
theorem el_lcT0 {Ps : List (V → Hp → Prop)} {j : Nat} {vs : List Nat} (m : ∀ P ∈ Ps, Mon P) (h : Evp tl σ H (TupOf Ps)) (hw : ∀ x, wipe ((wipe σ vs).set j (some x)) vs = wipe σ vs)
    (ht : ∀ (i : Nat) (x : V) (P : V → Hp → Prop) (H1 : Hp), Evl.Ex H H1 → Ps[i]? = some P → P x H1 → Evl.EvT tt ((wipe σ vs).set j (some x)) H1 false) : Evl.EvL (tLc (iTup K tl) (gName j) tt te vs) σ H [] := fun H0 e Q q =>
  h H0 e _ fun v H1 e1 hv => by
    obtain ⟨p, xs, rfl, hp, r⟩ := hv
    refine ⟨p, rfl, ⟨xs, Evl.st_of hp⟩, fun D hD => lc_noneT (K := K) (a := p) (xs := xs) (Evl.st_of hp) hD hw (fun i x hx H2 e2 Q2 q2 => ?_) (fun H2 e2 hd => q D H2 (Evl.fresh_back e1 hD) (e1.trans e2) hd)⟩
    have hlt : i < Ps.length := by
      rw [← r.length]
      exact (List.getElem?_eq_some_iff.mp hx).1
    obtain ⟨y, hy, py⟩ := r.get (List.getElem?_eq_getElem hlt)
    obtain rfl : x = y := Option.some.inj (hx.symm.trans hy)
    exact ht i x _ H2 ((e.trans e1).trans e2) (List.getElem?_eq_getElem hlt) (m _ (List.getElem_mem hlt) _ _ _ e2 py) H2 (Evl.Ex.refl H2) Q2 fun H3 e3 => q2 H3 e3
theorem ev_neNil (ha : Evl.EvL ta σ H []) (hb : Evl.EvL tb σ H []) : Evl.Ev (tOp (rNeD K) ta tb) σ H (.bl false) := Evl.ev_opLL ha hb fun p q H1 hp hq _ => fun H2 e2 Q k =>
  ⟨.list [], .list [], .lst (Evl.sq_of (e2 _ _ hp)) .nil, .lst (Evl.sq_of (e2 _ _ hq)) .nil, rfl, rfl, k H2 (Evl.Ex.refl H2)⟩
/-- over a list that is at hand, its items with words -/
theorem q_forLp {Ps : List (V → Hp → Prop)} {g : TG} (m : ∀ P ∈ Ps, Mon P) (h : Evp tl σ H (LstOf Ps)) (Pv : Nat → L2.St → Hp → Prop) (h0 : ∀ H1, Evl.Ex H H1 → Pv 0 σ H1)
    (hs : ∀ (H1 : Hp), Evl.Ex H H1 → ∀ (i : Nat) (x : V) (P : V → Hp → Prop) (σ' : L2.St) (H' : Hp), Ps[i]? = some P → P x H' → Evl.Ex H1 H' → Pv i σ' H' →
      g x σ' H' fun σ2 H2 => tu { D with nx := fun σ3 H3 => Evl.Ex H1 H3 ∧ Pv (i + 1) σ3 H3, ct := fun σ3 H3 => Evl.Ex H1 H3 ∧ Pv (i + 1) σ3 H3, bk := tz D } σ2 H2) (hd : ∀ (H1 : Hp), Evl.Ex H H1 → ∀ (σ' : L2.St) (H' : Hp), Evl.Ex H1 H' → Pv Ps.length σ' H' → tz D σ' H') :
    tSeq (tFor (iList K tl) g tu) tz D σ H := h H (Evl.Ex.refl H) _ fun v H1 e hv => by
  obtain ⟨p, vs, rfl, hp, r⟩ := hv
  refine ⟨p, rfl, ⟨vs, Evl.sq_of hp⟩, for_list (xs := vs) (D := { D with nx := tz D }) (fun i σ' H' => Evl.Ex H1 H' ∧ Pv i σ' H') ⟨Evl.Ex.refl H1, h0 H1 e⟩ (fun i σ' H' _ q => Evl.ex_l q.1 (Evl.sq_of hp)) (fun i x σ' H' hi q => ?_)
    (fun σ' H' q => hd H1 e σ' H' q.1 (by rw [← r.length]; exact q.2))⟩
  have hlt : i < Ps.length := by
    rw [← r.length]
    exact (List.getElem?_eq_some_iff.mp hi).1
  obtain ⟨y, hy, py⟩ := r.get (List.getElem?_eq_getElem hlt)
  obtain rfl : x = y := Option.some.inj (hi.symm.trans hy)
  exact hs H1 e i x _ σ' H' (List.getElem?_eq_getElem hlt) (m _ (List.getElem_mem hlt) _ _ _ q.1 py) q.1 q.2
theorem evp_call {sp : Sp} {dvs vs : List V} {E : XK} (h : Evl.EvA tr σ H vs) (hs : ∀ H1, Evl.Ex H H1 → ∀ Q : VK, (∀ v H2, Evl.Ex H1 H2 → P v H2 → Q v H2) → ∀ E : XK, sp (vs ++ dvs) H1 Q E) : Evp (tCall sp dvs E tr) σ H P := fun H1 e Q q =>
  h H1 e _ fun H2 e2 => hs H2 (e.trans e2) Q (fun v H3 e3 p => q v H3 (e2.trans e3) p) E
end
end BW
/-! Values of some kind; isinstance by kind; comprehensions over texts; all(); names and cells. -/
namespace BW
open PySem PySem.Spec PyProof.Rows L2

/-! ### kinds -/
/-- a value whose kind is known: None, a bool, an int, a text (not too long), a list, a tuple, a dict -/
inductive Knd (H : Hp) : V → String → Prop where
  | non : Knd H .non "NoneType"
  | bl (b : Bool) : Knd H (.bl b) "bool"
  | int (i : Int) : Knd H (.int i) "int"
  | str {z : Str} (h : z.length ≤ 1000) : Knd H (.str z) "str"
  | lst {a : Addr} {xs : List V} (h : H a = some (.lst xs)) : Knd H (.ref a) "list"
  | tup {a : Addr} {xs : List V} (h : H a = some (.tup xs)) : Knd H (.ref a) "tuple"
  | dict {a : Addr} {kvs : List (Key × V)} (h : H a = some (.dK kvs)) : Knd H (.ref a) "dict"
theorem Knd.mono {H H' : Hp} {v : V} {T : String} (e : Evl.Ex H H') (k : Knd H v T) : Knd H' v T := by
  cases k with
  | non => exact .non
  | bl b => exact .bl b
  | int i => exact .int i
  | str h => exact .str h
  | lst h => exact .lst (e _ _ h)
  | tup h => exact .tup (e _ _ h)
  | dict h => exact .dict (e _ _ h)
theorem Knd.tyx {K : PySem.W.Frag} {H : Hp} {v : V} {T : String} (k : Knd H v T) : TyX K H v (.type T) := by
  cases k with
  | non => exact .base .non
  | bl b => exact .base (.bl b)
  | int i => exact .base (.int i)
  | str h => exact .base (.str _)
  | lst h => exact .base (.lst h)
  | tup h => exact .base (.tup h)
  | dict h => exact .base (.dK h)
section
variable {K : PySem.W.Frag} {σ : L2.St} {H : Hp} {ta tb tc te : TE} {tas : TA} {v x y z : V} {T U : String} {b : Bool} {D : Ends} {tu tz : TS}
theorem ev_isi (hv : Evl.Ev ta σ H v) (k : Knd H v T) (hk : kitB T U = some b) : Evl.Ev (tCB (rIsi K) (tCons ta (tCons (tC (.ty U)) tNil))) σ H (.bl b) :=
  Evl.ev_cb (Evl.ea_cons hv (Evl.ea_cons Evl.ev_c Evl.ea_nil)) fun H1 e _ q => ⟨v, .ty U, .type T, .type U, b, rfl, .ty U, (k.mono e).tyx, kit_ty hk, q H1 (Evl.Ex.refl H1)⟩
/-- isinstance(v, (T1, T2)) -/
theorem ev_isi2 {U1 U2 : String} {b1 b2 : Bool} (hv : Evl.Ev ta σ H v) (k : Knd H v T) (h1 : kitB T U1 = some b1) (h2 : kitB T U2 = some b2) :
    Evl.Ev (tCB (rIsiT K) (tCons ta (tCons (tTup (tCons (tC (.ty U1)) (tCons (tC (.ty U2)) tNil))) tNil))) σ H (.bl (b1 || b2)) := fun H1 e Q q =>
  hv H1 e _ fun H2 e2 => ⟨(by show 2 ≤ sizeLine; decide), fun p np => ⟨v, p, [.ty U1, .ty U2], .type T, [.type U1, .type U2], b1 || b2, rfl, upd_same, .cons (.ty _) (.cons (.ty _) .nil), (k.mono ((e.trans e2).trans (Evl.Ex.new np))).tyx,
    kitAny_cons (kit_ty h1) (fun z => by
      subst z
      exact kitAny_cons (kit_ty h2) (fun z => by
        subst z
        exact kitAny_nil) (fun z => z)) (fun z => by
      subst z
      rfl), q _ (e2.trans (Evl.Ex.new np))⟩⟩
/-- all(bs) -/
theorem ev_all {bs : List Bool} (h : Evl.EvL ta σ H (bs.map V.bl)) : Evl.Ev (tCB (rAll K) (tCons ta tNil)) σ H (.bl (bs.all id)) := fun H1 e Q q =>
  h H1 e _ fun p H2 _ e2 hp => ⟨p, bs, rfl, .inl (.inl hp), q H2 e2⟩
/-- a op b op' c -/
theorem et_chain {r r' : R2} {b b' : Bool} (ha : Evl.Ev ta σ H x) (hb : Evl.Ev tb σ H y) (hc : Evl.Ev tc σ H z) (h1 : Evl.RV r x y H (.bl b)) (h2 : Evl.RV r' y z H (.bl b')) : Evl.EvT (tTest (tChain r r' ta tb tc)) σ H (b && b') := fun H1 e Q q =>
  ha H1 e _ fun H2 e2 => hb H2 (e.trans e2) _ fun H3 e3 => h1 H3 ((e.trans e2).trans e3) _ fun H4 e4 => ⟨b, rfl, by
    cases b with
    | true =>
      show tc σ H4 _
      exact hc H4 (((e.trans e2).trans e3).trans e4) _ fun H5 e5 => h2 H5 ((((e.trans e2).trans e3).trans e4).trans e5) _ fun H6 e6 => ⟨b', rfl, q H6 ((((e2.trans e3).trans e4).trans e5).trans e6)⟩
    | false => exact ⟨false, rfl, q H4 ((e2.trans e3).trans e4)⟩⟩
theorem rv_inSign {c : Nat} {w : Str} : Evl.RV (fun x y H Q => ∃ (c : Nat) (z : Str), x = .str ⟨#[c]⟩ ∧ y = .str z ∧ Q (.bl (decide (c ∈ z.cps.toList))) H) (.str ⟨#[c]⟩) (.str w) H (.bl (decide (c ∈ w.cps.toList))) := fun H1 _ _ q => ⟨c, w, rfl, rfl, q H1 (Evl.Ex.refl H1)⟩
theorem rv_ninSign {c : Nat} {w : Str} : Evl.RV (fun x y H Q => ∃ (c : Nat) (z : Str), x = .str ⟨#[c]⟩ ∧ y = .str z ∧ Q (.bl (!decide (c ∈ z.cps.toList))) H) (.str ⟨#[c]⟩) (.str w) H (.bl (!decide (c ∈ w.cps.toList))) := fun H1 _ _ q => ⟨c, w, rfl, rfl, q H1 (Evl.Ex.refl H1)⟩
/-- [e for c in text if t] -/
theorem el_lcS {w : Str} {tl : TE} {t : TT} {j : Nat} {vs : List Nat} (f : Nat → Bool) (g : Nat → V) (h : Evl.Ev tl σ H (.str w)) (hz : w.length ≤ 40000) (hw : ∀ x, wipe ((wipe σ vs).set j (some x)) vs = wipe σ vs)
    (ht : ∀ (i c : Nat) H1, Evl.Ex H H1 → w.cps[i]? = some c → Evl.EvT t ((wipe σ vs).set j (some (.str ⟨#[c]⟩))) H1 (f i)) (he : ∀ (i c : Nat) H1, Evl.Ex H H1 → w.cps[i]? = some c → f i = true → Evl.Ev te ((wipe σ vs).set j (some (.str ⟨#[c]⟩))) H1 (g i)) :
    Evl.EvL (tLc (iStr tl) (gName j) t te vs) σ H (Evl.given w.cps.size f g) := fun H0 e Q q => h H0 e _ fun H1 e1 => ⟨w, rfl, fun Dl hD =>
  ⟨fun i m H' => m = w.cps.size - i ∧ i ≤ w.cps.size ∧ Evl.Cw H1 f g Dl i H', ⟨w.cps.size, by simp, Nat.zero_le _, hD, Evl.Ex.new hD, upd_same⟩, fun i m H' hp => by
    obtain ⟨rfl, hi, p⟩ := hp
    have hz' : w.cps.size ≤ 40000 := hz
    by_cases hlt : i < w.cps.size
    · refine .inr ⟨hlt, Evl.Cw H1 f g Dl (i + 1), fun H2 p2 => ⟨w.cps.size - (i + 1), by omega, rfl, hlt, p2⟩, fun x H2 hy => ?_⟩
      obtain ⟨rfl, c, hc, rfl⟩ := hy
      exact ⟨hw _, Evl.cw_turn p (by omega) (ht i c H1 (e.trans e1) hc) (fun hf => he i c H1 (e.trans e1) hc hf)⟩
    · have ei : i = w.cps.size := by omega
      subst ei
      exact .inl ⟨Nat.le_refl _, q Dl H' (Evl.fresh_back e1 p.1) (e1.trans p.2.1) p.2.2⟩⟩⟩
end
/-! ### names -/
def letters : Str := "abcdefghijklmnopqrstuvwxyz"
def digits : Str := "0123456789"
def isLet (c : Nat) : Bool := decide (c ∈ letters.cps.toList)
def isDig (c : Nat) : Bool := decide (c ∈ digits.cps.toList)
def nameB (z : Str) : Bool := match z.cps.toList with
  | [] => false
  | c :: r => decide (z.length ≤ 12) && (isLet c && (c :: r).all fun c => isLet c || isDig c)
def isName : V → Bool
  | .str z => nameB z
  | _ => false
theorem given_all {n : Nat} {g : Nat → V} : Evl.given n (fun _ => true) g = (List.range n).map g := by
  unfold Evl.given
  rw [List.filter_eq_self.mpr (fun _ _ => rfl)]
theorem map_getD {α : Type} [Inhabited α] (l : List α) (f : α → Bool) : (List.range l.length).map (fun i => f (l.getD i default)) = l.map f := by
  apply List.ext_getElem
  · simp
  · intro i h1 h2
    simp at h1 h2
    simp [h1]
end BW
/-! list(text); calls by keywords alone; values seen with their items. -/
namespace BW
open PySem PySem.Spec PyProof.Rows L2

/-! ### list(text) -/
def signsV (z : Str) : List V := z.cps.toList.map fun c => V.str ⟨#[c]⟩
theorem vals_at : ∀ {xs : List V} {us : List Value}, xs.length = us.length → (∀ (i : Nat) (x : V) (u : Value), xs[i]? = some x → us[i]? = some u → RelV x u) → Vals xs us
  | [], [], _, _ => .nil
  | [], _ :: _, h, _ => nomatch h
  | _ :: _, [], h, _ => nomatch h
  | _ :: xs, _ :: us, h, k => .cons (k 0 _ _ rfl rfl) (vals_at (Nat.succ.inj h) fun i x u a b => k (i + 1) x u a b)
def rListStr : List V → Hp → VK → Prop := fun xs H Q => ∃ z, xs = [.str z] ∧ z.length ≤ 1000 ∧ ∀ l, H l = none → Q (.ref l) (upd H l (.lst (signsV z)))
theorem cr_listStr {X : Cx} (hc : X.calm = true) : CallR X (.type "list") rListStr := by
  intro pins s σ H xs us Q I r h
  obtain ⟨z, rfl, hz, q⟩ := h
  obtain ⟨u, rfl, t, rfl⟩ := vals1 r
  have h1000 : z.cps.size ≤ 1000 := hz
  have hh : X.A.handled = none := I.ok.hd hc
  have hsz : (signsV z).length = z.cps.size := by
    unfold signsV
    rw [List.length_map, Array.length_toList]
  refine PySem.call_list_str hh z t (fun h' tk acc' c' hk hS hit => ?_) (Evl.sz_of (by omega))
  obtain ⟨h1, h2⟩ := hit
  have rv : Vals (signsV z) acc'.toList := by
    refine vals_at (by rw [hsz, Array.length_toList, h1]) fun i x u hx hu => ?_
    obtain ⟨c, tk', hc', rfl⟩ := h2 i u (by rw [← Array.getElem?_toList]; exact hu)
    unfold signsV at hx
    rw [List.getElem?_map, Array.getElem?_toList, hc'] at hx
    obtain rfl := Option.some.inj hx
    exact ⟨tk', rfl⟩
  refine ⟨.ref s.heap.objs.size, _, I.laid (t' := tk) hk (Nat.le_refl _) (show ObjOk X.prog X.w _ h' _ (.lst (signsV z)) from ⟨Evl.sz_of (by omega), acc'.toList, c', rv, ?_⟩), rfl, q _ (I.hok.fresh (Nat.le_refl _))⟩
  rw [hS]
section
variable {σ : L2.St} {H : Hp} {ta : TE} {z : Str}
theorem el_listStr (ha : Evl.Ev ta σ H (.str z)) (hz : z.length ≤ 1000) : Evl.EvL (tCB rListStr (tCons ta tNil)) σ H (signsV z) := fun H1 e Q q =>
  ha H1 e _ fun H2 e2 => ⟨z, rfl, hz, fun l hl => q l _ (Evl.fresh_back e2 hl) (e2.trans (Evl.Ex.new hl)) upd_same⟩
end

/-! ### f(k = v, ..) -/
section
variable {X : Cx} {CX : CXT} {k n : Nat} {f : Addr} {fd : FuncData} {ps ks : List Str} {sp : Sp} {E : XK} {x : Str} {p pos : Pos} {kws : List Keyword} {tk : TA} {g : List Value → List Value → List Value} {gV : List V → List V → List V}
theorem pe_kwOnly (F : FnOk X.prog X.w X.K X.mg X.base CX k f fd ps sp) (hr : Room k X.A) (hg : Gl X x) (hm : X.mg x = some (.ref f)) (hk : PySem.W.keepIn X.K (.ref f) = true) (hb : KBn X.K fd ps 0 ks g gV) (hx : Passes CX X E) (hkw : PK X kws tk)
    (hall : (backToKw pos (keywordEach kws X.env)).all (·.1.isSome) = true := by rfl) (hks : (backToKw pos (keywordEach kws X.env)).filterMap (·.1) = ks := by rfl) (hdb : (x == ("__debug__" : Str)) = false := by decide)
    (hpl : ((backTo pos (starEach [] X.env)).any (·.1) || (backToKw pos (keywordEach kws X.env)).any (·.1.isNone)) = false := by rfl) :
    PE X (.Call (.Name x p) [] kws pos) (tCallN 0 ks.length sp gV E tNil tk) := by
  refine ⟨fun pins s σ H Q I h => ?_⟩
  refine wpAny_Call_Name_kw (ld_glob I hg hm ?_ hdb)
  refine PySem.W.callWith_KW0 (h₀ := X.base) I.ok.mod.kin hk hall ?_ hpl
  refine thn (hkw.run pos pins s σ H _ I h) fun ws s2 hh => ?_
  obtain ⟨zs, H2, I2, rz, l1, l2, q2⟩ := hh
  refine ⟨I2.kIn, ?_⟩
  rw [hks]
  exact run_fnN (us := []) (vs := []) F hr hb hx I2 .nil rz l1 l2 q2
end
section
variable {K : PySem.W.Frag} {x qual : Str} {st : Stmt} {f : Addr} {fd : FuncData} {ps ks : List Str}
theorem kb0 (F : Fun K x qual st f fd)
    (h : ∀ (kV doc pm : Value) (an : Option Addr) (cdv ct : Value) (ws : List Value), ws.length = ks.length → bindArgs (PySem.W.fnOf x qual (defArgs st) (defBody st) (defScope st) .none kV doc pm an cdv ct) ⟨[], ks.zip ws⟩ = pure (ps.zip ws)) :
    KBn K fd ps 0 ks (fun _ ws => ws) (fun _ zs => zs) := by
  obtain ⟨oc, od, kV, doc, pm, an, cdv, ct, osl, rfl, lk, hcd⟩ := F.ex
  refine ⟨fun s us ws X l1 l2 => ?_, fun _ r2 => r2⟩
  cases us with
  | nil => exact BindsTo.of_eq (h kV doc pm an cdv ct ws l2)
  | cons _ _ => cases l1
theorem kb0R (F : Fun K x qual st f fd)
    (h : ∀ (kV doc pm : Value) (an : Option Addr) (cdv ct : Value) (ws : List Value), ws.length = ks.length → bindArgs (PySem.W.fnOf x qual (defArgs st) (defBody st) (defScope st) .none kV doc pm an cdv ct) ⟨[], ks.zip ws⟩ = pure (ps.zip ws.reverse)) :
    KBn K fd ps 0 ks (fun _ ws => ws.reverse) (fun _ zs => zs.reverse) := by
  obtain ⟨oc, od, kV, doc, pm, an, cdv, ct, osl, rfl, lk, hcd⟩ := F.ex
  refine ⟨fun s us ws X l1 l2 => ?_, fun _ r2 => vals_rev r2⟩
  cases us with
  | nil => exact BindsTo.of_eq (h kV doc pm an cdv ct ws l2)
  | cons _ _ => cases l1
end
section
variable {σ : L2.St} {H : Hp} {t : TA} {zs : List V} {n : Nat} {sp : Sp} {gV : List V → List V → List V} {E : XK} {v : V}
theorem ev_callN (h : Evl.EvA t σ H zs) (hl : zs.length = n) (hs : Evl.SpV sp (gV [] zs) H v) : Evl.Ev (tCallN 0 n sp gV E tNil t) σ H v := fun H1 e Q q =>
  h H1 e _ fun H2 e2 => ⟨rfl, hl, hs H2 (e.trans e2) Q (fun H3 e3 => q H3 (e2.trans e3)) E⟩
end

/-! ### values seen with their items -/
theorem dp_strs {K : PySem.W.Frag} {H : Hp} : ∀ zs : List Str, DpAll K H (zs.map V.str) (zs.map PyData.str)
  | [] => .nil
  | z :: zs => .cons (.str z) (dp_strs zs)
/-- an item of a list: flat, or a list or tuple of texts -/
inductive Elm (H : Hp) : V → Prop where
  | non : Elm H .non
  | bl (b : Bool) : Elm H (.bl b)
  | int (i : Int) : Elm H (.int i)
  | str {z : Str} (h : z.length ≤ 1000) (ok : PySem.PyData.strOk z = true) : Elm H (.str z)
  | lst {a : Addr} {zs : List Str} (h : H a = some (.lst (zs.map V.str))) (ok : ∀ z ∈ zs, PySem.PyData.strOk z = true) : Elm H (.ref a)
  | tup {a : Addr} {zs : List Str} (h : H a = some (.tup (zs.map V.str))) (ok : ∀ z ∈ zs, PySem.PyData.strOk z = true) : Elm H (.ref a)
theorem Elm.mono {H H' : Hp} {v : V} (e : Evl.Ex H H') (k : Elm H v) : Elm H' v := by
  cases k with
  | non => exact .non
  | bl b => exact .bl b
  | int i => exact .int i
  | str h ok => exact .str h ok
  | lst h ok => exact .lst (e _ _ h) ok
  | tup h ok => exact .tup (e _ _ h) ok
theorem Elm.knd {H : Hp} {v : V} (k : Elm H v) : ∃ T, Knd H v T := by
  cases k with
  | non => exact ⟨_, .non⟩
  | bl b => exact ⟨_, .bl b⟩
  | int i => exact ⟨_, .int i⟩
  | str h ok => exact ⟨_, .str h⟩
  | lst h ok => exact ⟨_, .lst h⟩
  | tup h ok => exact ⟨_, .tup h⟩
theorem lay_strs : ∀ {zs : List Str}, (∀ z ∈ zs, PySem.PyData.strOk z = true) → PyData.canLayAll0 (zs.map PyData.str) = true
  | [], _ => rfl
  | z :: zs, h => by
    show (PySem.PyData.strOk z && PyData.canLayAll0 (zs.map PyData.str)) = true
    rw [h z (List.mem_cons_self ..), lay_strs (fun y hy => h y (List.mem_cons_of_mem _ hy))]
    rfl
theorem deep_strs : ∀ zs : List Str, PyData.depthAll (zs.map PyData.str) = 0
  | [] => rfl
  | z :: zs => by
    show max 0 (PyData.depthAll (zs.map PyData.str)) = 0
    rw [deep_strs zs]
    rfl
theorem Elm.dp {K : PySem.W.Frag} {H : Hp} {v : V} (k : Elm H v) : ∃ d, d.canLay0 = true ∧ d.depth ≤ 1 ∧ ∀ H1, Evl.Ex H H1 → Dp K H1 v d := by
  cases k with
  | non => exact ⟨.none, rfl, Nat.zero_le _, fun _ _ => .non⟩
  | bl b => exact ⟨.bool b, rfl, Nat.zero_le _, fun _ _ => .bl b⟩
  | int i => exact ⟨.int i, rfl, Nat.zero_le _, fun _ _ => .int i⟩
  | @str z h ok => exact ⟨.str z, ok, Nat.zero_le _, fun _ _ => .str z⟩
  | @lst a zs h ok => exact ⟨.list (zs.map .str), lay_strs ok, by show PyData.depthAll (zs.map PyData.str) + 1 ≤ 1; rw [deep_strs]; exact Nat.le_refl _, fun H1 e => .lst (Evl.sq_of (e _ _ h)) (dp_strs zs)⟩
  | @tup a zs h ok => exact ⟨.tuple (zs.map .str), lay_strs ok, by show PyData.depthAll (zs.map PyData.str) + 1 ≤ 1; rw [deep_strs]; exact Nat.le_refl _, fun H1 e => .tup (Evl.st_of (e _ _ h)) (dp_strs zs)⟩
theorem elms_dp {K : PySem.W.Frag} {H : Hp} : ∀ {ys : List V}, (∀ y ∈ ys, Elm H y) → ∃ ds, PyData.canLayAll0 ds = true ∧ PyData.depthAll ds ≤ 1 ∧ ∀ H1, Evl.Ex H H1 → DpAll K H1 ys ds
  | [], _ => ⟨[], rfl, Nat.zero_le _, fun _ _ => .nil⟩
  | y :: ys, h => by
    obtain ⟨d, h1, h2, h3⟩ := (h y (List.mem_cons_self ..)).dp (K := K)
    obtain ⟨ds, k1, k2, k3⟩ := elms_dp (K := K) fun z hz => h z (List.mem_cons_of_mem _ hz)
    refine ⟨d :: ds, ?_, ?_, fun H1 e => .cons (h3 H1 e) (k3 H1 e)⟩
    · show (d.canLay0 && PyData.canLayAll0 ds) = true
      rw [h1, k1]
      rfl
    · show max d.depth (PyData.depthAll ds) ≤ 1
      exact Nat.max_le.mpr ⟨h2, k2⟩
theorem shaped_of {ds : List PyData} (h1 : PyData.canLayAll0 ds = true) (h2 : PyData.depthAll ds ≤ 1) : SeqAt.shaped (.list ds) = true := by
  show (PyData.canLayAll0 ds && decide (PyData.depthAll ds + 1 ≤ 64)) = true
  rw [h1, decide_eq_true (by omega)]
  rfl
inductive Seen (H : Hp) : V → Option (List V) → Prop where
  | flat {v : V} {T : String} (k : Knd H v T) (h1 : (T == "list") = false) (h2 : (T == "tuple") = false) : Seen H v none
  | lst {a : Addr} {xs : List V} (h : H a = some (.lst xs)) (hl : xs.length ≤ 20) (hx : ∀ x ∈ xs, Elm H x) : Seen H (.ref a) (some xs)
  | tup {a : Addr} {xs : List V} (h : H a = some (.tup xs)) (hl : xs.length ≤ 20) (hx : ∀ x ∈ xs, Elm H x) : Seen H (.ref a) (some xs)
theorem Seen.mono {H H' : Hp} {v : V} {o : Option (List V)} (e : Evl.Ex H H') (k : Seen H v o) : Seen H' v o := by
  cases k with
  | flat k h1 h2 => exact .flat (k.mono e) h1 h2
  | lst h hl hx => exact .lst (e _ _ h) hl fun x hm => (hx x hm).mono e
  | tup h hl hx => exact .tup (e _ _ h) hl fun x hm => (hx x hm).mono e
theorem Seen.kind {H : Hp} {v : V} {o : Option (List V)} (k : Seen H v o) : ∃ T, Knd H v T ∧ (T == "list" || T == "tuple") = o.isSome := by
  cases k with
  | flat k h1 h2 => exact ⟨_, k, by rw [h1, h2]; rfl⟩
  | lst h hl hx => exact ⟨"list", .lst h, (by decide : ("list" == "list" || "list" == "tuple") = true)⟩
  | tup h hl hx => exact ⟨"tuple", .tup h, (by decide : ("tuple" == "list" || "tuple" == "tuple") = true)⟩
end BW
namespace BW
open PySem PySem.Spec PyProof.Rows L2
/-! ### a list or a tuple, whichever it is -/
def SqX (K : PySem.W.Frag) (H : Hp) (a : Addr) (xs : List V) : Prop := SqL K H a xs ∨ SqT K H a xs
theorem SqX.ex {K : PySem.W.Frag} {H H' : Hp} {a : Addr} {xs : List V} (e : Evl.Ex H H') (h : SqX K H a xs) : SqX K H' a xs := h.elim (fun h => .inl (Evl.ex_l e h)) (fun h => .inr (Evl.ex_t e h))
def rIxX (K : PySem.W.Frag) : R2 := fun x y H Q => rIxL K x y H Q ∨ rIxT K x y H Q
theorem ix_seq {X : Cx} : IxR X (rIxX X.K) := fun value slice pins s σ H x y v u Q I rx ry h hs =>
  h.elim (fun h => ix_list value slice pins s σ H x y v u Q I rx ry h hs) (fun h => ix_tup value slice pins s σ H x y v u Q I rx ry h hs)
def iSeq (K : PySem.W.Frag) (tl : TE) : TI := fun σ H R => tl σ H fun x H1 => ∃ a, x = .ref a ∧ (((∃ xs, SqL K H1 a xs) ∧ R (Itl K a) H1) ∨ ((∃ xs, SqT K H1 a xs) ∧ R (Itt K a) H1))
theorem pi_seq {X : Cx} {tg l : Expr} {tl : TE} (hl : PE X l tl) : PI X tg l (iSeq X.K tl) := by
  constructor
  intro pins s σ H R I h
  refine thn (hl.run pins s σ H _ I h) fun v t hh => ?_
  obtain ⟨x, G, J, rx, a, rfl, hq⟩ := hh
  cases rx
  have one : ∀ b, b ∈ [t.heap.objs.size] → b = t.heap.objs.size := fun b hb => by simpa using hb
  rcases hq with ⟨⟨xs, hq⟩, q⟩ | ⟨⟨xs, hq⟩, q⟩
  · obtain ⟨us, _, place, _⟩ := J.list hq
    refine wpAny_pyIter_list place.isList ⟨_, [t.heap.objs.size], _, _, G, rfl, J.kept (t' := t.toks) fun _ _ z => Heap.get?_push_of_some _ z, turn_list a _, ⟨_, Heap.get?_push_size _ rfl, rfl, rfl⟩, fun b hb => ?_, q⟩
    rw [one b hb]
    exact J.fpOk (Nat.le_refl _) (J.hok.fresh (Nat.le_refl _))
  · obtain ⟨us, _, place, _⟩ := J.tuple hq
    refine wpAny_pyIter_tuple (show t.heap.IsTuple a us.toArray from place) ⟨_, [t.heap.objs.size], _, _, G, rfl, J.kept (t' := t.toks) fun _ _ z => Heap.get?_push_of_some _ z, turn_tuple a _, ⟨_, Heap.get?_push_size _ rfl, rfl, rfl⟩, fun b hb => ?_, q⟩
    rw [one b hb]
    exact J.fpOk (Nat.le_refl _) (J.hok.fresh (Nat.le_refl _))
section
variable {K : PySem.W.Frag} {σ : L2.St} {H : Hp} {tl te : TE} {t : TT} {a : Addr} {xs : List V} {i : Int} {v : V}
theorem rv_ixX (h : SqX K H a xs) (ha : atI xs i = some v) : Evl.RV (rIxX K) (.ref a) (.int i) H v := fun H1 e Q q =>
  h.elim (fun h => .inl (Evl.rv_ixL h ha H1 e Q q)) (fun h => .inr (Evl.rv_ixT h ha H1 e Q q))
/-- [e for x in xs if t] -/
theorem el_lcX {j : Nat} {vs : List Nat} (f : Nat → Bool) (g : Nat → V) (h : Evl.Ev tl σ H (.ref a)) (hx : SqX K H a xs) (hz : xs.length ≤ 40000) (hw : ∀ x, wipe ((wipe σ vs).set j (some x)) vs = wipe σ vs)
    (ht : ∀ (i : Nat) (x : V) H1, Evl.Ex H H1 → xs[i]? = some x → Evl.EvT t ((wipe σ vs).set j (some x)) H1 (f i)) (he : ∀ (i : Nat) (x : V) H1, Evl.Ex H H1 → xs[i]? = some x → f i = true → Evl.Ev te ((wipe σ vs).set j (some x)) H1 (g i)) :
    Evl.EvL (tLc (iSeq K tl) (gName j) t te vs) σ H (Evl.given xs.length f g) := fun H0 e Q q => h H0 e _ fun H1 e1 => ⟨a, rfl, by
  have turn : ∀ (Dl : Addr) (i : Nat) (x : V) (H' : Hp), xs[i]? = some x → Evl.Cw H1 f g Dl i H' → wipe ((wipe σ vs).set j (some x)) vs = wipe σ vs ∧ t ((wipe σ vs).set j (some x)) H' fun b H3 => if b = true then te ((wipe σ vs).set j (some x)) H3 fun y H4 => ∃ acc, H4 Dl = some (.lst acc) ∧ acc.length < sizeLine ∧ Evl.Cw H1 f g Dl (i + 1) (upd H4 Dl (.lst (acc ++ [y]))) else Evl.Cw H1 f g Dl (i + 1) H3 := fun Dl i x H' hi p =>
    ⟨hw x, Evl.cw_turn p (by have := (List.getElem?_eq_some_iff.mp hi).1; omega) (ht i x H1 (e.trans e1) hi) (fun hf => he i x H1 (e.trans e1) hi hf)⟩
  rcases hx with hx | hx
  · exact .inl ⟨⟨xs, Evl.ex_l (e.trans e1) hx⟩, fun Dl hD => lc_list (xs := xs) (Evl.Cw H1 f g Dl) ⟨hD, Evl.Ex.new hD, upd_same⟩ (fun i H' _ p => Evl.ex_l ((e.trans e1).trans p.2.1) hx) (fun i x H' hi p => turn Dl i x H' hi p)
      (fun H' p => q Dl H' (Evl.fresh_back e1 p.1) (e1.trans p.2.1) p.2.2)⟩
  · exact .inr ⟨⟨xs, Evl.ex_t (e.trans e1) hx⟩, fun Dl hD => lc_tup (xs := xs) (Evl.Cw H1 f g Dl) ⟨hD, Evl.Ex.new hD, upd_same⟩ (fun i H' _ p => Evl.ex_t ((e.trans e1).trans p.2.1) hx) (fun i x H' hi p => turn Dl i x H' hi p)
      (fun H' p => q Dl H' (Evl.fresh_back e1 p.1) (e1.trans p.2.1) p.2.2)⟩⟩
/-- len of either -/
theorem ev_lenX (ha : Evl.Ev te σ H (.ref a)) (h : SqX K H a xs) : Evl.Ev (tCB (Evl.rLenS K) (tCons te tNil)) σ H (.int (xs.length : Int)) := fun H1 e Q q =>
  ha H1 e _ fun H2 e2 => ⟨a, xs, rfl, SqX.ex (e.trans e2) h, q H2 e2⟩
/-- [..] != [], [..] == [] -/
theorem ev_neNil2 {tb : TE} {ys : List V} {ds : List PyData} (ha : Evl.EvL te σ H ys) (hb : Evl.EvL tb σ H []) (hd : ∀ H1, Evl.Ex H H1 → DpAll K H1 ys ds) (sh : SeqAt.shaped (.list ds) = true) : Evl.Ev (tOp (rNeD K) te tb) σ H (.bl (!ys.isEmpty)) := Evl.ev_opLL ha hb fun p q H1 hp hq e1 => fun H2 e2 Q k => by
  have hd2 := hd H2 (e1.trans e2)
  refine ⟨.list ds, .list [], .lst (Evl.sq_of (e2 _ _ hp)) hd2, .lst (Evl.sq_of (e2 _ _ hq)) .nil, sh, rfl, ?_⟩
  have e3 : (!PyData.eqv (.list ds) (.list [])) = !ys.isEmpty := by
    cases hd2 <;> rfl
  rw [e3]
  exact k H2 (Evl.Ex.refl H2)
theorem ev_eqNil2 {tb : TE} {ys : List V} {ds : List PyData} (ha : Evl.EvL te σ H ys) (hb : Evl.EvL tb σ H []) (hd : ∀ H1, Evl.Ex H H1 → DpAll K H1 ys ds) (sh : SeqAt.shaped (.list ds) = true) : Evl.Ev (tOp (rEqD K) te tb) σ H (.bl ys.isEmpty) := Evl.ev_opLL ha hb fun p q H1 hp hq e1 => fun H2 e2 Q k => by
  have hd2 := hd H2 (e1.trans e2)
  refine ⟨.list ds, .list [], .lst (Evl.sq_of (e2 _ _ hp)) hd2, .lst (Evl.sq_of (e2 _ _ hq)) .nil, sh, rfl, ?_⟩
  have e3 : PyData.eqv (.list ds) (.list []) = ys.isEmpty := by
    cases hd2 <;> rfl
  rw [e3]
  exact k H2 (Evl.Ex.refl H2)
end
theorem Seen.seq {K : PySem.W.Frag} {H : Hp} {v : V} {xs : List V} (k : Seen H v (some xs)) : ∃ a, v = .ref a ∧ SqX K H a xs ∧ xs.length ≤ 20 ∧ ∀ x ∈ xs, Elm H x := by
  cases k with
  | lst h hl hx => exact ⟨_, rfl, .inl (Evl.sq_of h), hl, hx⟩
  | tup h hl hx => exact ⟨_, rfl, .inr (Evl.st_of h), hl, hx⟩
theorem given_mem {n : Nat} {f : Nat → Bool} {g : Nat → V} {y : V} (h : y ∈ Evl.given n f g) : ∃ i, i < n ∧ f i = true ∧ g i = y := by
  unfold Evl.given at h
  obtain ⟨i, hi, e⟩ := List.mem_map.mp h
  obtain ⟨h1, h2⟩ := List.mem_filter.mp hi
  exact ⟨i, List.mem_range.mp h1, h2, e⟩
/-- nothing given: no turn gives -/
theorem given_empty (n : Nat) (f : Nat → Bool) (g : Nat → V) : (Evl.given n f g).isEmpty = (List.range n).all fun i => !f i := by
  unfold Evl.given
  rw [List.isEmpty_map]
  induction List.range n with
  | nil => rfl
  | cons x l ih =>
    rw [List.filter_cons, List.all_cons]
    cases hf : f x with
    | true => rfl
    | false =>
      rw [if_neg (by simp), ih]
      rfl
section
variable {K : PySem.W.Frag} {σ : L2.St} {H : Hp} {te tb : TE} {ys : List V}
theorem ev_neE (ha : Evl.EvL te σ H ys) (hy : ∀ y ∈ ys, Elm H y) : Evl.Ev (tOp (rNeD K) te (tLst tNil)) σ H (.bl (!ys.isEmpty)) := by
  obtain ⟨ds, h1, h2, h3⟩ := elms_dp (K := K) hy
  exact ev_neNil2 ha (Evl.el_lst Evl.ea_nil (Nat.zero_le _)) h3 (shaped_of h1 h2)
theorem ev_eqE (ha : Evl.EvL te σ H ys) (hy : ∀ y ∈ ys, Elm H y) : Evl.Ev (tOp (rEqD K) te (tLst tNil)) σ H (.bl ys.isEmpty) := by
  obtain ⟨ds, h1, h2, h3⟩ := elms_dp (K := K) hy
  exact ev_eqNil2 ha (Evl.el_lst Evl.ea_nil (Nat.zero_le _)) h3 (shaped_of h1 h2)
end
end BW
/-! Defs of the text as callees; comprehensions over ranges with any ends. -/
namespace BW
open PySem PySem.Spec PyProof.Rows L2
/-- a def of the text that raises nothing -/
structure Df (P : Program) (w : World) (K : PySem.W.Frag) (mg : Str → Option Value) (base : Heap) (k : Nat) (nm : Str) (ps : List Str) (sp : Sp) (f : Addr) (fd : FuncData) : Prop where
  ok : FnOk P w K mg base CX0 k f fd ps sp
  b : Binds K fd ps []
  g : mg nm = some (.ref f)
  kp : PySem.W.keepIn K (.ref f) = true
section
variable {X : Cx} {k : Nat} {nm : Str} {ps ks : List Str} {sp : Sp} {f : Addr} {fd : FuncData} {e : Expr} {es : List Expr} {kws : List Keyword} {t : TA} {p pos : Pos} {g : List Value → List Value → List Value} {gV : List V → List V → List V}
theorem pe_df (D : Df X.prog X.w X.K X.mg X.base k nm ps sp f fd) (hr : Room k X.A) (ha : PA X (e :: es) t) (hg : Gl X nm := by rfl) (hdb : (nm == ("__debug__" : Str)) = false := by decide)
    (he : starEach (e :: es) X.env = (false, eval e X.env) :: starEach es X.env := by rfl) (hpl : (backTo pos (starEach es X.env)).any (·.1) = false := by rfl) : PE X (.Call (.Name nm p) (e :: es) [] pos) (tCall sp [] E0 t) :=
  pe_call D.ok hr hg D.g D.kp D.b .nil pass0 ha hdb he hpl
theorem pe_dfk (D : Df X.prog X.w X.K X.mg X.base k nm ps sp f fd) (hb : KBn X.K fd ps 0 ks g gV) (hr : Room k X.A) (hkw : PK X kws t) (hg : Gl X nm := by rfl)
    (hall : (backToKw pos (keywordEach kws X.env)).all (·.1.isSome) = true := by rfl) (hks : (backToKw pos (keywordEach kws X.env)).filterMap (·.1) = ks := by rfl) (hdb : (nm == ("__debug__" : Str)) = false := by decide)
    (hpl : ((backTo pos (starEach [] X.env)).any (·.1) || (backToKw pos (keywordEach kws X.env)).any (·.1.isNone)) = false := by rfl) :
    PE X (.Call (.Name nm p) [] kws pos) (tCallN 0 ks.length sp gV E0 tNil t) :=
  pe_kwOnly D.ok hr hg D.g D.kp hb pass0 hkw hall hks hdb hpl
end
section
variable {K : PySem.W.Frag} {σ : L2.St} {H : Hp} {te : TE} {t : TT} {ta : TA} {j : Nat} {vs : List Nat}
theorem el_lcRg {n : Int} (f : Nat → Bool) (g : Nat → V) (h : Evl.EvA ta σ H [.int n]) (hn : -100000 ≤ n ∧ n ≤ 40000) (hw : ∀ x, wipe ((wipe σ vs).set j (some x)) vs = wipe σ vs)
    (ht : ∀ (i : Nat) H1, Evl.Ex H H1 → (i : Int) < n → Evl.EvT t ((wipe σ vs).set j (some (.int (i : Int)))) H1 (f i)) (he : ∀ (i : Nat) H1, Evl.Ex H H1 → (i : Int) < n → f i = true → Evl.Ev te ((wipe σ vs).set j (some (.int (i : Int)))) H1 (g i)) :
    Evl.EvL (tLc (iRng1 ta) (gName j) t te vs) σ H (Evl.given n.toNat f g) := fun H0 e Q q => h H0 e _ fun H1 e1 => ⟨n, rfl, by omega, by omega, fun Dl hD =>
  lc_range (lo := 0) (n := n.toNat) (Evl.Cw H1 f g Dl) ⟨hD, Evl.Ex.new hD, upd_same⟩ (fun i H' hi p => ⟨hw _, by
    have z : (0 : Int) + (i : Int) = (i : Int) := Int.zero_add _
    rw [z]
    exact Evl.cw_turn p (by omega) (ht i H1 (e.trans e1) (by omega)) (fun hf => he i H1 (e.trans e1) (by omega) hf)⟩) (fun H' p => q Dl H' (Evl.fresh_back e1 p.1) (e1.trans p.2.1) p.2.2)⟩
theorem el_lcRg2 {lo n : Int} (f : Nat → Bool) (g : Nat → V) (h : Evl.EvA ta σ H [.int lo, .int n]) (hn : 0 ≤ lo ∧ lo ≤ 100000 ∧ -100000 ≤ n ∧ n ≤ 40000) (hw : ∀ x, wipe ((wipe σ vs).set j (some x)) vs = wipe σ vs)
    (ht : ∀ (i : Nat) H1, Evl.Ex H H1 → lo + (i : Int) < n → Evl.EvT t ((wipe σ vs).set j (some (.int (lo + (i : Int))))) H1 (f i)) (he : ∀ (i : Nat) H1, Evl.Ex H H1 → lo + (i : Int) < n → f i = true → Evl.Ev te ((wipe σ vs).set j (some (.int (lo + (i : Int))))) H1 (g i)) :
    Evl.EvL (tLc (iRng2 ta) (gName j) t te vs) σ H (Evl.given (n - lo).toNat f g) := fun H0 e Q q => h H0 e _ fun H1 e1 => ⟨lo, n, rfl, ⟨by omega, by omega, by omega, by omega⟩, fun Dl hD =>
  lc_range (lo := lo) (n := (n - lo).toNat) (Evl.Cw H1 f g Dl) ⟨hD, Evl.Ex.new hD, upd_same⟩ (fun i H' hi p => ⟨hw _, Evl.cw_turn p (by omega) (ht i H1 (e.trans e1) (by omega)) (fun hf => he i H1 (e.trans e1) (by omega) hf)⟩)
    (fun H' p => q Dl H' (Evl.fresh_back e1 p.1) (e1.trans p.2.1) p.2.2)⟩
/-- every turn gives a truth -/
theorem given_bls (n : Nat) (p : Nat → Bool) : Evl.given n (fun _ => true) (fun i => V.bl (p i)) = ((List.range n).map p).map V.bl := by
  rw [given_all, List.map_map]
  rfl
theorem all_range_get (xs : List V) (p : V → Bool) : ((List.range xs.length).map fun i => p (xs.getD i .non)).all id = xs.all p := by
  rw [List.all_map]
  induction xs with
  | nil => rfl
  | cons x xs ih =>
    rw [List.length_cons, List.range_succ_eq_map, List.all_cons, List.all_map, List.all_cons]
    congr 1
end
end BW
/-! Evaluations that draw: all but the pen's own object stays; how many draws; a word about the value over the rest of the heap. -/
namespace BW
open PySem PySem.Spec PyProof.Rows L2
/-- the heap without what stands at p -/
def hide (p : Addr) (H : Hp) : Hp := fun b => if b = p then none else H b
theorem hide_at {p a : Addr} {H : Hp} {o : HO} (n : a ≠ p) (h : H a = some o) : hide p H a = some o := by
  unfold hide
  rw [if_neg n]
  exact h
theorem hide_sub (p : Addr) (H : Hp) : Evl.Ex (hide p H) H := fun b o h => by
  unfold hide at h
  split at h
  · cases h
  · exact h
theorem hide_kp {p : Addr} {H H' : Hp} (k : Kp p H H') : Evl.Ex (hide p H) (hide p H') := fun b o h => by
  unfold hide at h
  split at h
  · cases h
  · rename_i n
    exact hide_at n (k b o n h)
theorem hide_ne {p a : Addr} {H : Hp} {o : HO} (h : hide p H a = some o) : a ≠ p := fun e => by
  unfold hide at h
  rw [if_pos e] at h
  cases h
/-- the pen at p, its cells at L: n of them read at most -/
def PenL (H : Hp) (p L : Addr) (n : Nat) : Prop := ∃ (ns : List Int) (k : Nat) (r : Int), H p = some (.lst [.ref L, .int (k : Int), .int r]) ∧ H L = some (.lst (ns.map V.int)) ∧ p ≠ L ∧ ns.length ≤ 100 ∧ k ≤ n ∧ 0 ≤ r
theorem PenL.pen {H : Hp} {p L : Addr} {n : Nat} (h : PenL H p L n) : Pen H p n := by
  obtain ⟨ns, k, r, h⟩ := h
  exact ⟨L, ns, k, r, h⟩
theorem PenL.same {p L : Addr} {n : Nat} {H H' : Hp} (h : PenL H p L n) (e : Same H H') : PenL H' p L n := by
  obtain ⟨ns, k, r, h1, h2, h3⟩ := h
  exact ⟨ns, k, r, e _ _ h1, e _ _ h2, h3⟩
theorem PenL.up {H : Hp} {p L : Addr} {n m : Nat} (h : PenL H p L n) (e : n ≤ m) : PenL H p L m := by
  obtain ⟨ns, k, r, h1, h2, h3, h4, h5, h6⟩ := h
  exact ⟨ns, k, r, h1, h2, h3, h4, Nat.le_trans h5 e, h6⟩
theorem PenL.ne {H : Hp} {p L a : Addr} {n : Nat} (h : PenL H p L n) (e : H a = none) : a ≠ p ∧ a ≠ L := by
  obtain ⟨ns, k, r, h1, h2, _⟩ := h
  exact ⟨(ne_of_none h1 e).symm, (ne_of_none h2 e).symm⟩
/-- the pen, an object written that is not its own -/
theorem PenL.over {H : Hp} {p L a : Addr} {o : HO} {n : Nat} (h : PenL H p L n) (h1 : a ≠ p ∧ a ≠ L) : PenL (upd H a o) p L n := by
  obtain ⟨ns, k, r, e1, e2, e3⟩ := h
  exact ⟨ns, k, r, by rw [upd_ne h1.1.symm]; exact e1, by rw [upd_ne h1.2.symm]; exact e2, e3⟩
abbrev Wd := V → Hp → Prop
def Evd (p L : Addr) (te : TE) (σ : L2.St) (H : Hp) (m : Nat) (P : Wd) : Prop := ∀ H1, Kp p H H1 → ∀ n, PenL H1 p L n → n + m ≤ 100000 → ∀ Q : VK, (∀ v H2, Kp p H1 H2 → PenL H2 p L (n + m) → P v (hide p H2) → Q v H2) → te σ H1 Q
def Eda (p L : Addr) (tr : TA) (σ : L2.St) (H : Hp) (m N : Nat) (P : Wd) : Prop := ∀ H1, Kp p H H1 → ∀ n, PenL H1 p L n → n + m ≤ 100000 → ∀ Q : List V → Hp → Prop, (∀ vs H2, Kp p H1 H2 → PenL H2 p L (n + m) → vs.length = N → (∀ v ∈ vs, P v (hide p H2)) → Q vs H2) → tr σ H1 Q
section
variable {p L : Addr} {te ta tb : TE} {tr : TA} {σ : L2.St} {H H' : Hp} {m m' m2 N : Nat} {P P' P2 : Wd} {v : V} {K : PySem.W.Frag}
theorem Evd.mono (h : Evd p L te σ H m P) (k : Kp p H H') : Evd p L te σ H' m P := fun H1 k1 => h H1 (k.trans k1)
theorem Evd.up (h : Evd p L te σ H m P) (e : m ≤ m') : Evd p L te σ H m' P := fun H1 k n pn hn Q q => h H1 k n pn (by omega) Q fun v H2 k2 p2 pv => q v H2 k2 (p2.up (by omega)) pv
theorem Evd.imp (h : Evd p L te σ H m P) (e : ∀ v G, P v G → P' v G) : Evd p L te σ H m P' := fun H1 k n pn hn Q q => h H1 k n pn hn Q fun v H2 k2 p2 pv => q v H2 k2 p2 (e v _ pv)
theorem ed_of (hv : ∀ H1, Kp p H H1 → Evl.Ev te σ H1 v) (hp : ∀ G, P v G) : Evd p L te σ H 0 P := fun H1 k n pn hn Q q => hv H1 k H1 (Evl.Ex.refl H1) Q fun H2 e => q v H2 (Same.kp e) (pn.same e) (hp _)
theorem ed_c (hp : ∀ G, P v G) : Evd p L (tC v) σ H 0 P := ed_of (fun _ _ => Evl.ev_c) hp
theorem ed_op {r : R2} {Pz : Wd} (mP : Mon P) (ha : Evd p L ta σ H m P) (hb : Evd p L tb σ H m' P')
    (hr : ∀ x y H1, Kp p H H1 → P x (hide p H1) → P' y (hide p H1) → ∃ z, Evl.RV r x y H1 z ∧ ∀ G, Pz z G) : Evd p L (tOp r ta tb) σ H (m + m') Pz := fun H1 k n pn hn Q q =>
  ha H1 k n pn (by omega) _ fun x H2 k2 p2 px => hb H2 (k.trans k2) (n + m) p2 (by omega) _ fun y H3 k3 p3 py => by
    obtain ⟨z, hz, pz⟩ := hr x y H3 ((k.trans k2).trans k3) (mP _ _ _ (hide_kp k3) px) py
    exact hz H3 (Evl.Ex.refl H3) Q fun H4 e4 => q z H4 ((k2.trans k3).trans (Same.kp e4)) (by rw [← Nat.add_assoc]; exact p3.same e4) (pz _)
theorem eda_nil : Eda p L tNil σ H 0 0 P := fun H1 k n pn hn Q q => q [] H1 (Kp.refl p H1) pn rfl fun _ h => nomatch h
theorem eda_cons (mP : Mon P) (h : Evd p L te σ H m P) (hr : Eda p L tr σ H m' N P) : Eda p L (tCons te tr) σ H (m + m') (N + 1) P := fun H1 k n pn hn Q q =>
  h H1 k n pn (by omega) _ fun v H2 k2 p2 pv => hr H2 (k.trans k2) (n + m) p2 (by omega) _ fun vs H3 k3 p3 l pvs => q _ H3 (k2.trans k3) (by rw [← Nat.add_assoc]; exact p3) (by rw [List.length_cons, l]) fun x hx => by
    rcases List.mem_cons.mp hx with rfl | hx
    · exact mP _ _ _ (hide_kp k3) pv
    · exact pvs x hx
/-- a number below j -/
def Lt (j : Int) : Wd := fun v _ => ∃ r, v = .int r ∧ 0 ≤ r ∧ r < j
theorem mon_lt {j : Int} : Mon (Lt j) := fun _ _ _ _ h => h
/-- [a, b, ..][draw] -/
theorem ed_pick (mP : Mon P) (hN : N ≤ 100000) (h : Eda p L tr σ H m N P) (hb : Evd p L tb σ H m' (Lt (N : Int))) : Evd p L (tOp (rIxL K) (tLst tr) tb) σ H (m + m') P := fun H1 k n pn hn Q q =>
  h H1 k n pn (by omega) _ fun vs H2 k2 p2 l pvs => ⟨by rw [l]; exact Evl.sz_of hN, fun a na => by
    have ka : Kp p H2 (upd H2 a (.lst vs)) := Same.kp (same_new na)
    refine hb _ ((k.trans k2).trans ka) (n + m) (p2.same (same_new na)) (by omega) _ fun y H4 k4 p4 py => ?_
    obtain ⟨r, rfl, r0, r1⟩ := py
    have hl : H4 a = some (.lst vs) := k4 a _ (p2.ne na).1 upd_same
    have hi : r.toNat < vs.length := by omega
    have er : r = ((r.toNat : Nat) : Int) := by omega
    refine ⟨a, vs, r, vs[r.toNat], rfl, rfl, Evl.sq_of hl, ?_, q _ H4 ((k2.trans ka).trans k4) (by rw [← Nat.add_assoc]; exact p4) (mP _ _ _ (hide_kp (ka.trans k4)) (pvs _ (List.getElem_mem hi)))⟩
    have hg : vs[r.toNat]? = some vs[r.toNat] := List.getElem?_eq_getElem hi
    have z := atI_nat (xs := vs) (j := r.toNat) hg
    rw [← er] at z
    exact z⟩
/-- a conditional expression -/
theorem ed_if {t : TT} {b : Bool} (h : ∀ H1, Kp p H H1 → Evl.EvT t σ H1 b) (h1 : b = true → Evd p L ta σ H m P) (h2 : b = false → Evd p L tb σ H m P) : Evd p L (tIf t ta tb) σ H m P := fun H1 k n pn hn Q q =>
  h H1 k H1 (Evl.Ex.refl H1) _ fun H2 e => by
    have fin : ∀ v H3, Kp p H2 H3 → PenL H3 p L (n + m) → P v (hide p H3) → Q v H3 := fun v H3 k3 p3 pv => q v H3 ((Same.kp e).trans k3) p3 pv
    cases b with
    | true => exact h1 rfl H2 (k.trans (Same.kp e)) n (pn.same e) hn Q fin
    | false => exact h2 rfl H2 (k.trans (Same.kp e)) n (pn.same e) hn Q fin
/-- .. whose test draws -/
theorem ed_ifD {te : TE} {m3 : Nat} {b : V → Bool} (h : Evd p L te σ H m (fun v _ => ∃ b, v = .bl b)) (h1 : Evd p L ta σ H m3 P) (h2 : Evd p L tb σ H m3 P) : Evd p L (tIf (tTest te) ta tb) σ H (m + m3) P := fun H1 k n pn hn Q q =>
  h H1 k n pn (by omega) _ fun v H2 k2 p2 hv => by
    obtain ⟨b, rfl⟩ := hv
    refine ⟨b, rfl, ?_⟩
    have fin : ∀ v H3, Kp p H2 H3 → PenL H3 p L (n + m + m3) → P v (hide p H3) → Q v H3 := fun v H3 k3 p3 pv => q v H3 (k2.trans k3) (by rw [← Nat.add_assoc]; exact p3) pv
    cases b with
    | true => exact h1 H2 (k.trans k2) (n + m) p2 (by omega) Q fin
    | false => exact h2 H2 (k.trans k2) (n + m) p2 (by omega) Q fin
/-- a new list of items of which Pe holds -/
def LstE (M : Nat) (Pe : V → Prop) : Wd := fun v G => ∃ a xs, v = .ref a ∧ G a = some (.lst xs) ∧ xs.length ≤ M ∧ ∀ x ∈ xs, Pe x
theorem mon_lstE {M : Nat} {Pe : V → Prop} : Mon (LstE M Pe) := fun v G G' e h => by
  obtain ⟨a, xs, rfl, h, l⟩ := h
  exact ⟨a, xs, rfl, e _ _ h, l⟩
/-- [e for x in range(n)], e draws -/
theorem ed_lcR {tn : TE} {j M d : Nat} {vs : List Nat} {Pe : V → Prop} (hM : M ≤ 1000) (hn : Evd p L tn σ H m (fun v _ => ∃ i : Int, v = .int i ∧ 0 ≤ i ∧ i ≤ (M : Int))) (hw : ∀ x, wipe ((wipe σ vs).set j (some x)) vs = wipe σ vs)
    (he : ∀ (x : V), Evd p L te ((wipe σ vs).set j (some x)) H d (fun v _ => Pe v)) : Evd p L (tLc (iRng1 (tCons tn tNil)) (gName j) tYes te vs) σ H (m + M * d) (LstE M Pe) := fun H1 k n pn hle Q q =>
  hn H1 k n pn (by omega) _ fun v H2 k2 p2 hv => by
    obtain ⟨i, rfl, i0, i1⟩ := hv
    refine ⟨i, rfl, by omega, by omega, fun Dl hD => ?_⟩
    have neD := p2.ne hD
    refine lc_range (lo := 0) (n := i.toNat) (fun t G => ∃ acc : List V, G Dl = some (.lst acc) ∧ acc.length = t ∧ (∀ x ∈ acc, Pe x) ∧ Kp p H2 G ∧ PenL G p L (n + m + t * d) ∧ t ≤ M) ⟨[], upd_same, rfl, (fun _ h => nomatch h), Same.kp (same_new hD), (by rw [Nat.zero_mul]; exact p2.same (same_new hD)), Nat.zero_le _⟩ (fun t G ht hp => ⟨hw _, ?_⟩) (fun G hp => ?_)
    · obtain ⟨acc, h1, h2, h3, h4, h5, h6⟩ := hp
      have hb : t * d ≤ (M - 1) * d := Nat.mul_le_mul_right d (by omega)
      have hb2 : (M - 1) * d + d = M * d := by
        have e : M = (M - 1) + 1 := by omega
        conv => rhs; rw [e, Nat.add_mul, Nat.one_mul]
      dsimp only [tYes]
      rw [if_pos rfl]
      refine he _ G ((k.trans k2).trans h4) (n + m + t * d) h5 (by omega) _ fun y G2 k3 p3 py => ⟨acc, k3 _ _ neD.1 h1, ?_, acc ++ [y], upd_same, by rw [List.length_append, h2]; rfl, fun x hx => ?_, ?_, ?_, by omega⟩
      · exact small_of (by omega)
      · rcases List.mem_append.mp hx with hx | hx
        · exact h3 x hx
        · rw [List.mem_singleton.mp hx]
          exact py
      · exact fun b o nb hb => by
          rw [upd_ne (ne_of_none hb hD)]
          exact (h4.trans k3) b o nb hb
      · have e2 : n + m + (t + 1) * d = n + m + t * d + d := by rw [Nat.add_mul, Nat.one_mul]; omega
        rw [e2]
        exact p3.over neD
    · obtain ⟨acc, h1, h2, h3, h4, h5, h6⟩ := hp
      have hb : i.toNat * d ≤ M * d := Nat.mul_le_mul_right d (by omega)
      exact q _ G (k2.trans h4) (h5.up (by omega)) ⟨Dl, acc, rfl, hide_at neD.1 h1, by omega, h3⟩
end
end BW
namespace K04
open PySem PySem.Spec PyProof.Rows L2 BW
def topS (i : Nat) : Stmt := PySem.Challenge.pw_borderwords_k04_regions_made_read_refuse.main.body.getD i (.Pass ⟨0, 0, 0, 0⟩)
abbrev sPen : Stmt := topS 29
abbrev sDraw : Stmt := topS 30
section
variable {P : Program} {w : World} {K : PySem.W.Frag} {mg : Str → Option Value} {base : Heap}
theorem scSt : FnScope ["_law_script", "_law_cell"] ["_law_script"] (defScope sPen) := ⟨rfl, rfl, rfl, by decide +kernel, rfl, by decide +kernel, by decide +kernel⟩
def spPen (K : PySem.W.Frag) : Sp := fun vs H Q _ => ∃ (a : Addr) (ns : List Int), vs = [.ref a] ∧ SqL K H a (ns.map V.int) ∧ ns.length ≤ 63 ∧ ∀ p L H', Same H H' → H p = none → PenL H' p L 0 → Q (.ref p) H'
theorem ok_pen {f : Addr} {fd : FuncData} {k : Nat} (F : Fun K "_law_pen" "_law_pen" sPen f fd) (mi : mg "int" = none) : FnOk P w K mg base CX0 (k + 1) f fd ["_law_script"] (spPen K) := by
  refine F.ok scSt (fun vs H Q E h => ?_) (fun cdv A outer s H vs Q E hr h => ?_)
  · obtain ⟨a, ns, rfl, _⟩ := h
    rfl
  · obtain ⟨a, ns, rfl, hS, hlen, q⟩ := h
    refine ⟨_, pss_one (ps_ret (pe_lst (pa_cons (pe_lc (own := [("_law_cell", 1)]) (g := gName 1) (tt := tYes) rfl scSt.nd (pi_list (pe_slice sl_list (pv 0) po_none (po_some pe_int)))
      (blkOk_by (N := ["_law_script", "_law_cell"]) (sc := defScope sPen) (by decide +kernel)) (fun _ _ _ _ _ => pg_name (i := 1) scSt.nd rfl (Or.inl rfl)) (fun _ _ _ _ _ => pts_nil)
      (fun _ _ _ _ _ => pe_callTy call_int1 (by rfl) mi (by decide +kernel) (pa_cons (pv 1) pa_nil))) (pa_cons pe_int (pa_cons pe_int pa_nil))))), ?_⟩
    obtain ⟨ms, em, lm⟩ := cut_int ns 63
    refine ⟨.ref a, rfl, 63, rfl, a, ns.map V.int, rfl, hS, fun c nc => ⟨c, rfl, ⟨_, .inl (.inl upd_same)⟩, fun D hD => ?_⟩⟩
    rw [em] at hD ⊢
    have s1 : Same H (upd H c (.lst (ms.map V.int))) := same_new nc
    refine lc_mapL (K := K) (ys := ms.map V.int) (i0 := 1) (vs := [1]) (.inl (.inl upd_same)) hD rfl (by rw [List.length_map]; omega) (fun _ => rfl) (fun i x y hx hy H2 e Q2 q2 => ?_) (fun H2 e hd => ?_)
    · obtain rfl : x = y := Option.some.inj (hx.symm.trans hy)
      rw [List.getElem?_map] at hx
      cases hm : ms[i]? with
      | none =>
        rw [hm] at hx
        cases hx
      | some z =>
        rw [hm] at hx
        obtain rfl : V.int z = x := Option.some.inj hx
        exact ⟨_, rfl, .inl ⟨z, rfl, q2 H2 (Same.refl H2)⟩⟩
    · refine ⟨by show 3 ≤ sizeLine; decide, fun p np => ?_⟩
      refine q p D _ ((s1.trans e).trans (same_new np)) (s1.free (e.free np)) ⟨ms, 0, 0, upd_same, ?_, ?_, by omega, Nat.le_refl 0, Int.le_refl 0⟩
      · rw [upd_ne (ne_of_none hd np)]
        exact hd
      · exact (ne_of_none hd np).symm
theorem dp_ints (K : PySem.W.Frag) (H : Hp) : ∀ ns : List Int, DpAll K H (ns.map V.int) (ns.map PyData.int)
  | [] => .nil
  | n :: ns => .cons (.int n) (dp_ints K H ns)
theorem at_mod (x : Int) (t : List Int) (j : Nat) : ∃ c : Int, atI ((x :: t).map V.int) ((j : Int) % (((x :: t).map V.int).length : Int)) = some (.int c) := by
  have hl : j % (x :: t).length < (x :: t).length := Nat.mod_lt _ (Nat.succ_pos _)
  refine ⟨(x :: t)[j % (x :: t).length], ?_⟩
  rw [List.length_map, ← Int.natCast_emod]
  exact atI_nat (by rw [List.getElem?_map, List.getElem?_eq_getElem hl]; rfl)
theorem mix_bound (a : Int) (j : Nat) (h0 : 0 ≤ a) (h1 : a < 2147483629) (hj : j ≤ 100000) : (a * (2 * (j : Int) + 2677) + 38011 * (j : Int) * (j : Int) + 6947).natAbs < 2 ^ 64 := by
  have e1 : a * (2 * (j : Int) + 2677) ≤ 2147483629 * 202677 := Int.mul_le_mul (by omega) (by omega) (by omega) (by omega)
  have e2 : 0 ≤ a * (2 * (j : Int) + 2677) := Int.mul_nonneg h0 (by omega)
  have e3 : 38011 * (j : Int) * (j : Int) ≤ 38011 * 100000 * 100000 := Int.mul_le_mul (by omega) (by omega) (by omega) (by omega)
  have e4 : 0 ≤ 38011 * (j : Int) * (j : Int) := Int.mul_nonneg (by omega) (by omega)
  omega
theorem scNx : FnScope ["_law_pen_here", "_law_many", "_law_left", "_law_turn", "_law_cell", "_law_mixed"] ["_law_pen_here", "_law_many"] (defScope sDraw) := ⟨rfl, rfl, rfl, by decide +kernel, rfl, by decide +kernel, by decide +kernel⟩
def spDraw : Sp := fun vs H Q _ => ∃ (p L : Addr) (n : Nat) (m : Int), vs = [.ref p, .int m] ∧ PenL H p L n ∧ n ≤ 100000 ∧ 0 < m ∧ m.natAbs < 2 ^ 200 ∧
  ∀ (r : Int) H', 0 ≤ r → r < m → Kp p H H' → PenL H' p L (n + 1) → Q (.int r) H'
theorem ok_draw {f : Addr} {fd : FuncData} {k : Nat} (F : Fun K "_law_draw" "_law_draw" sDraw f fd) (mi : mg "int" = none) (ml : mg "len" = none) (ma : mg "abs" = none) : FnOk P w K mg base CX0 (k + 1) f fd ["_law_pen_here", "_law_many"] spDraw := by
  refine F.ok scNx (fun vs H Q E h => ?_) (fun cdv A outer s H vs Q E hr h => ?_)
  · obtain ⟨p, L, n, m, rfl, _⟩ := h
    rfl
  · obtain ⟨p, L, n, m, rfl, hP, hn, m0, m1, q⟩ := h
    have nd := scNx.nd
    have hu := hu_of hr
    refine ⟨_, pss_cons (ps_if (pt_cmpR op_gt (pe_ix ix_list (pv 0) pe_int (fun _ _ => rfl)) pe_int (nomark _))
        (pss_cons (ps_set (i := 2) nd rfl (.inl rfl) (pe_ix ix_list (pv 0) pe_int (fun _ _ => rfl)))
          (pss_cons (ps_asg (pe_op op_fdivW (pe_callTy call_int1 (by rfl) mi (by decide +kernel) (pa_cons (pv 2) pa_nil)) (pv 1)) (pg_sub (pv 0) pe_int set_list))
          (pss_one (ps_ret (pe_op op_mod (pe_callTy call_int1 (by rfl) mi (by decide +kernel) (pa_cons (pv 2) pa_nil)) (pv 1))))))
        pss_nil)
      (pss_cons (ps_set (i := 3) nd rfl (.inl rfl) (pe_ix ix_list (pv 0) pe_int (fun _ _ => rfl)))
      (pss_cons (ps_asg (pe_op op_add (pv 3) pe_int) (pg_sub (pv 0) pe_int set_list))
      (pss_cons (ps_set (i := 4) nd rfl (.inl rfl) (pe_op op_add (pe_op op_mul pe_int (pv 3)) pe_int))
      (C8.pss_cut (ps_if (pt_cmpR (op_neD hr.units) (pe_ix ix_list (pv 0) pe_int (fun _ _ => rfl)) (pe_lst pa_nil) (nomark _))
        (pss_one (ps_set (i := 4) nd rfl (.inl rfl) (pe_ix ix_list (pe_ix ix_list (pv 0) pe_int (fun _ _ => rfl))
          (pe_op op_mod (pe_callTy call_int1 (by rfl) mi (by decide +kernel) (pa_cons (pv 3) pa_nil)) (pe_callB call_len_seq (by rfl) ml PySem.boot_len (pa_cons (pe_ix ix_list (pv 0) pe_int (fun _ _ => rfl)) pa_nil))) (fun _ _ => rfl))))
        pss_nil)
      (C8.pss_cut (ps_if (PW.pt (pw_and (pt_cmpR op_lt (pv 3) (pe_callB call_len_seq (by rfl) ml PySem.boot_len (pa_cons (pe_ix ix_list (pv 0) pe_int (fun _ _ => rfl)) pa_nil)) (nomark _))
          (pw_and1 (pt_cmpR op_ge (pe_callB call_abs (by rfl) ma (by decide +kernel) (pa_cons (pv 4) pa_nil)) (pe_op op_pow pe_int pe_int) (nomark _)))))
        (pss_cons (ps_set (i := 2) nd rfl (.inl rfl) (pe_op op_add (pe_op op_mul pe_int (pe_op op_sub (pe_callB call_abs (by rfl) ma (by decide +kernel) (pa_cons (pv 4) pa_nil)) (pe_op op_pow pe_int pe_int)))
            (pe_callTy call_int1 (by rfl) mi (by decide +kernel) (pa_cons (pe_cmpR op_lt (pv 4) pe_int (nomark _)) pa_nil))))
          (pss_cons (ps_asg (pe_op op_fdivW (pe_callTy call_int1 (by rfl) mi (by decide +kernel) (pa_cons (pv 2) pa_nil)) (pv 1)) (pg_sub (pv 0) pe_int set_list))
          (pss_one (ps_ret (pe_op op_mod (pe_callTy call_int1 (by rfl) mi (by decide +kernel) (pa_cons (pv 2) pa_nil)) (pv 1))))))
        pss_nil)
      (pss_cons (ps_set (i := 5) nd rfl (.inl rfl) (pe_op op_mod (pe_callTy call_int1 (by rfl) mi (by decide +kernel) (pa_cons (pe_op op_pow
          (pe_op op_add (pe_op op_add (pe_op op_mod (pe_callTy call_int1 (by rfl) mi (by decide +kernel) (pa_cons (pv 4) pa_nil)) pe_int) (pe_op op_mul pe_int (pv 3))) pe_int) pe_int) pa_nil)) pe_int))
      (pss_cons (ps_set (i := 5) nd rfl (.inl rfl) (pe_op op_mod (pe_callTy call_int1 (by rfl) mi (by decide +kernel) (pa_cons (pe_op op_pow
          (pe_op op_add (pe_op op_add (pe_op op_mul (pv 5) (pe_op op_add (pe_op op_mul pe_int (pv 3)) pe_int)) (pe_op op_mul (pe_op op_mul pe_int (pv 3)) (pv 3))) pe_int) pe_int) pa_nil)) pe_int))
      (pss_one (ps_ret (pe_op op_mod (pe_callTy call_int1 (by rfl) mi (by decide +kernel) (pa_cons (pe_op op_fdiv (pv 5) pe_int) pa_nil)) (pv 1))))))))))), ?_⟩
    obtain ⟨ns, j, r, eP, eL, pL, ln, jn, r0⟩ := hP
    have dv : ∀ x : Int, CDivW x m := fun x => wide_div m0 m1 (by decide) (by decide)
    have fin : ∀ (c x : Int) (i : Nat) H1, Kp p H H1 → H1 L = some (.lst (ns.map V.int)) → i ≤ n + 1 → 0 ≤ x → H1 p = some (.lst [.ref L, .int (i : Int), .int x]) → Q (.int (c % m)) H1 := fun c x i H1 e1 e2 e3 e4 e5 =>
      q _ _ (Int.emod_nonneg _ (by omega)) (Int.emod_lt_of_pos _ m0) e1 ⟨ns, i, x, e5, e2, pL, ln, e3, e4⟩
    refine ⟨.ref p, rfl, p, _, 2, .int r, rfl, rfl, .inl (.inl eP), atI_nat (j := 2) rfl, r, 0, rfl, rfl, _, rfl, ite2 (fun c => ?_) (fun c => ?_)⟩
    · refine ⟨.ref p, rfl, p, _, 2, .int r, rfl, rfl, .inl (.inl eP), atI_nat (j := 2) rfl, ?_⟩
      refine ⟨.int r, rfl, .inl ⟨r, rfl, .int m, rfl, r, m, rfl, rfl, dv r, ?_⟩⟩
      refine ⟨.ref p, rfl, p, _, 2, 2, rfl, rfl, eP, rfl, ?_⟩
      refine ⟨.int r, rfl, .inl ⟨r, rfl, .int m, rfl, r, m, rfl, rfl, m0, ?_⟩⟩
      exact fin r (r / m) j _ Kp.upd ((upd_ne pL.symm).trans eL) (by omega) (Int.ediv_nonneg r0 (by omega)) upd_same
    · refine ⟨.ref p, rfl, p, _, 1, .int j, rfl, rfl, .inl (.inl eP), atI_nat (j := 1) rfl, ?_⟩
      refine ⟨.int j, rfl, j, 1, rfl, rfl, .ref p, rfl, p, _, 1, 1, rfl, rfl, eP, rfl, ?_⟩
      refine ⟨.int j, rfl, 52021, j, rfl, rfl, .inl ⟨by decide, by decide⟩, _, _, rfl, rfl, ?_⟩
      have eP1 : (upd H p (.lst [.ref L, .int ((j : Int) + 1), .int r])) p = some (.lst [.ref L, .int ((j + 1 : Nat) : Int), .int r]) := upd_same
      have eL1 : (upd H p (.lst [.ref L, .int ((j : Int) + 1), .int r])) L = some (.lst (ns.map V.int)) := (upd_ne pL.symm).trans eL
      refine ⟨fun σ H1 => ∃ c : Int, σ = [some (.ref p), some (.int m), none, some (.int j), some (.int c), none] ∧ Kp p H H1 ∧ H1 L = some (.lst (ns.map V.int)) ∧ H1 p = some (.lst [.ref L, .int ((j + 1 : Nat) : Int), .int r]), ?_, ?_⟩
      · refine ⟨.ref p, rfl, p, _, 0, .ref L, rfl, rfl, .inl (.inl eP1), atI_nat (j := 0) rfl, Nat.zero_le _, fun b nb => ?_⟩
        have e0 : Kp p H (upd (upd H p (.lst [.ref L, .int ((j : Int) + 1), .int r])) b (.lst [])) := Kp.trans Kp.upd (Same.kp (same_new nb))
        have eP2 := same_new (o := .lst []) nb _ _ eP1
        have eL2 := same_new (o := .lst []) nb _ _ eL1
        refine ⟨.list (ns.map .int), .list [], .lst (.inl (.inl eL2)) (dp_ints _ _ ns), .lst (.inl (.inl upd_same)) .nil, PySem.W.shaped_ints ns, rfl, _, rfl, ite2 (fun c => ?_) (fun c => ?_)⟩
        · cases ns with
          | nil => exact Bool.noConfusion (show false = true from c)
          | cons x t =>
            obtain ⟨c0, hc0⟩ := at_mod x t j
            refine ⟨.ref p, rfl, p, _, 0, .ref L, rfl, rfl, .inl (.inl eP2), atI_nat (j := 0) rfl, .int j, rfl, .inl ⟨j, rfl, ?_⟩⟩
            refine ⟨.ref p, rfl, p, _, 0, .ref L, rfl, rfl, .inl (.inl eP2), atI_nat (j := 0) rfl, L, _, rfl, .inl (.inl (.inl eL2)), j, _, rfl, rfl, ?_, ?_⟩
            · show (0 : Int) < _
              rw [List.length_map, List.length_cons]
              omega
            · exact ⟨L, _, _, .int c0, rfl, rfl, .inl (.inl eL2), hc0, c0, rfl, e0, eL2, eP2⟩
        · exact ⟨_, rfl, e0, eL2, eP2⟩
      · rintro σ H1 ⟨c, rfl, eK, eL1, eP1⟩
        refine ⟨fun σ H2 => σ = [some (.ref p), some (.int m), none, some (.int j), some (.int c), none] ∧ H2 = H1, ?_, ?_⟩
        · refine ⟨.int j, rfl, .ref p, rfl, p, _, 0, .ref L, rfl, rfl, .inl (.inl eP1), atI_nat (j := 0) rfl, L, _, rfl, .inl (.inl (.inl eL1)), j, _, rfl, rfl, _, rfl, ite2 (fun c1 => ?_) (fun c1 => ?_)⟩
          · refine ⟨.int c, rfl, c, rfl, 10, 18, rfl, rfl, ⟨by decide, by decide, by decide⟩, _, _, rfl, rfl, _, rfl, ite2 (fun c2 => ?_) (fun c2 => ?_)⟩
            · refine ⟨.int c, rfl, c, rfl, 10, 18, rfl, rfl, ⟨by decide, by decide, by decide⟩, _, _, rfl, rfl, 2, _, rfl, rfl, .inl ⟨by decide, by decide⟩, ?_⟩
              refine ⟨.int c, rfl, c, 0, rfl, rfl, .inr ⟨_, rfl, _, _, rfl, rfl, ?_⟩⟩
              have x0 : 0 ≤ 2 * ((if c < 0 then -c else c) - 10 ^ (18 : Int).toNat) + (if decide (c < 0) = true then 1 else 0) := by
                have z : (10 : Int) ^ (18 : Int).toNat ≤ (if c < 0 then -c else c) := of_decide_eq_true c2
                split <;> omega
              refine ⟨_, rfl, .inl ⟨_, rfl, .int m, rfl, _, m, rfl, rfl, dv _, ?_⟩⟩
              refine ⟨.ref p, rfl, p, _, 2, 2, rfl, rfl, eP1, rfl, ?_⟩
              refine ⟨_, rfl, .inl ⟨_, rfl, .int m, rfl, _, m, rfl, rfl, m0, ?_⟩⟩
              exact fin _ _ (j + 1) _ (eK.trans Kp.upd) ((upd_ne pL.symm).trans eL1) (by omega) (Int.ediv_nonneg x0 (Int.le_of_lt m0)) upd_same
            · exact ⟨rfl, rfl⟩
          · exact iteF ⟨rfl, rfl⟩
        · rintro σ H2 ⟨rfl, rfl⟩
          refine ⟨.int c, rfl, .inl ⟨c, rfl, c, 2147483587, rfl, rfl, (by show (0 : Int) < 2147483587; decide), .int j, rfl, 52021, j, rfl, rfl, .inl ⟨by decide, by decide⟩, _, _, rfl, rfl, _, _, rfl, rfl, _, 5, rfl, rfl, ?_, ?_⟩⟩
          · refine ⟨by decide, by decide, ?_⟩
            show (c % 2147483587 + 52021 * (j : Int) + 6947).natAbs < 2 ^ 64
            omega
          · refine .inl ⟨_, rfl, _, 2147483629, rfl, rfl, (by show (0 : Int) < 2147483629; decide), ?_⟩
            obtain ⟨y, hy⟩ : ∃ y : Int, y = ((c % 2147483587 + 52021 * (j : Int) + 6947) ^ (5 : Int).toNat) % 2147483629 := ⟨_, rfl⟩
            have y0 : 0 ≤ y := by
              rw [hy]
              exact Int.emod_nonneg _ (by decide)
            have y1 : y < 2147483629 := by
              rw [hy]
              exact Int.emod_lt_of_pos _ (by decide)
            refine ⟨.int y, by rw [hy]; rfl, .int j, rfl, 2, j, rfl, rfl, .inl ⟨by decide, by decide⟩, _, _, rfl, rfl, y, _, rfl, rfl, .inl ⟨by omega, by omega⟩, ?_⟩
            refine ⟨.int j, rfl, 38011, j, rfl, rfl, .inl ⟨by decide, by decide⟩, .int j, rfl, _, j, rfl, rfl, .inr ⟨by omega, by omega⟩, _, _, rfl, rfl, _, _, rfl, rfl, _, 3, rfl, rfl, ?_, ?_⟩
            · exact ⟨by decide, by decide, mix_bound y j y0 y1 (by omega)⟩
            · refine .inl ⟨_, rfl, _, 2147483549, rfl, rfl, (by show (0 : Int) < 2147483549; decide), ?_⟩
              refine ⟨_, rfl, _, 64, rfl, rfl, ⟨by decide, by decide⟩, .inl ⟨_, rfl, .int m, rfl, _, m, rfl, rfl, m0, ?_⟩⟩
              exact fin _ r (j + 1) _ eK eL1 (by omega) r0 eP1
end
end K04
namespace BW
open PySem PySem.Spec PyProof.Rows L2
theorem asc_lt {z : Str} (h : Txt.isascii z = true) : ∀ c ∈ z.cps.toList, c < 128 := by
  intro c hc
  unfold Txt.isascii at h
  rw [← Array.all_toList] at h
  exact of_decide_eq_true (List.all_eq_true.mp h c hc)
theorem asc_no {z : Str} (h : Txt.isascii z = false) : ∃ c, c ∈ z.cps.toList ∧ ¬ c < 128 := by
  unfold Txt.isascii at h
  rw [← Array.all_toList, List.all_eq_false] at h
  obtain ⟨c, hc, hn⟩ := h
  exact ⟨c, hc, fun hl => hn (decide_eq_true hl)⟩
theorem sign_asc {c : Nat} (h : ¬ c < 128) : (isLet c || isDig c) = false := by
  have h1 : ∀ d ∈ letters.cps.toList, d < 128 := by decide +kernel
  have h2 : ∀ d ∈ digits.cps.toList, d < 128 := by decide +kernel
  have e1 : isLet c = false := decide_eq_false fun hm => h (h1 c hm)
  have e2 : isDig c = false := decide_eq_false fun hm => h (h2 c hm)
  rw [e1, e2]
  rfl
theorem sign_is : ∀ c, c < 128 → (isLet c || isDig c) = (Unicode.isAlnum c && decide (lo1 c = c)) := by decide +kernel
theorem first_is : ∀ c, c < 128 → (isLet c || isDig c) = true → isLet c = !(Txt.isdigit ⟨#[c]⟩) := by decide +kernel
theorem all_two {p q r : Nat → Bool} : ∀ l : List Nat, (∀ c ∈ l, p c = (q c && r c)) → l.all p = (l.all q && l.all r)
  | [], _ => rfl
  | a :: t, h => by
    rw [List.all_cons, List.all_cons, List.all_cons, h a (.head _), all_two t fun c hc => h c (.tail _ hc)]
    cases q a <;> cases r a <;> cases t.all q <;> cases t.all r <;> rfl
theorem map_same {f : Nat → Nat} : ∀ l : List Nat, decide (l = l.map f) = l.all fun c => decide (f c = c)
  | [] => rfl
  | a :: t => by
    rw [List.all_cons, ← map_same t, List.map_cons, Bool.eq_iff_iff]
    simp only [decide_eq_true_eq, Bool.and_eq_true, List.cons.injEq]
    exact ⟨fun h => ⟨h.1.symm, h.2⟩, fun h => ⟨h.1.symm, h.2⟩⟩
theorem lower_same {z : Str} (hA : ∀ c ∈ z.cps.toList, c < 128) : decide (V.str z = V.str (Txt.lower z)) = z.cps.toList.all fun c => decide (lo1 c = c) := by
  rw [lower_ascii hA, ← map_same, Bool.eq_iff_iff]
  simp only [decide_eq_true_eq, V.str.injEq]
  constructor
  · intro h
    have := congrArg (fun s : Str => s.cps.toList) h
    rw [show (Str.mk (z.cps.map lo1)).cps.toList = z.cps.toList.map lo1 from Array.toList_map ..] at this
    exact this
  · intro h
    cases z with
    | mk a =>
      congr 1
      apply Array.toList_inj.mp
      rw [Array.toList_map]
      exact h
/-- a name as the package looks at it: small letters and digits of ASCII, no digit first -/
def newName (z : Str) (c : Nat) : Bool := Txt.isascii z && (Txt.isalnum z && (decide (V.str z = V.str (Txt.lower z)) && !(Txt.isdigit ⟨#[c]⟩)))
theorem name_new {z : Str} {c : Nat} {r : List Nat} (he : z.cps.toList = c :: r) : newName z c = (isLet c && (c :: r).all fun c => isLet c || isDig c) := by
  unfold newName
  cases hA : Txt.isascii z with
  | false =>
    obtain ⟨d, hd, hn⟩ := asc_no hA
    rw [he] at hd
    have hf : ((c :: r).all fun c => isLet c || isDig c) = false := by
      rw [List.all_eq_false]
      exact ⟨d, hd, by rw [sign_asc hn]; exact Bool.false_ne_true⟩
    rw [hf, Bool.and_false]
    rfl
  | true =>
    have hL := asc_lt hA
    rw [lower_same hL, Bool.true_and]
    have hN : Txt.isalnum z = z.cps.toList.all Unicode.isAlnum := by
      unfold Txt.isalnum
      have hp : z.length > 0 := by
        have : z.cps.toList.length = z.length := Array.length_toList
        rw [he, List.length_cons] at this
        omega
      rw [decide_eq_true hp, Bool.true_and, ← Array.all_toList]
    rw [hN, he]
    rw [he] at hL
    have h2 : ((c :: r).all fun c => isLet c || isDig c) = ((c :: r).all Unicode.isAlnum && (c :: r).all fun c => decide (lo1 c = c)) :=
      all_two (c :: r) fun d hd => sign_is d (hL d hd)
    cases hx : ((c :: r).all fun c => isLet c || isDig c) with
    | false =>
      rw [hx] at h2
      rw [← Bool.and_assoc, ← h2, Bool.and_false]
      rfl
    | true =>
      rw [hx] at h2
      rw [← Bool.and_assoc, ← h2, Bool.true_and, Bool.and_true, first_is c (hL c (.head _)) ?_]
      rw [List.all_eq_true] at hx
      exact hx c (.head _)
theorem ev_m0 {r : V → List V → Hp → VK → Prop} {to : TE} {σ : L2.St} {H : Hp} {z : Str} {u : V} (h : Evl.Ev to σ H (.str z)) (hr : ∀ H1 Q, Q u H1 → r (.str z) [] H1 Q) : Evl.Ev (tM0 r to) σ H u :=
  fun H1 e Q q => h H1 e _ fun H2 e2 => ⟨⟨z, rfl⟩, hr H2 Q (q H2 e2)⟩
theorem rv_strEq {a b : Str} {H : Hp} : Evl.RV rEq (.str a) (.str b) H (.bl (decide (V.str a = V.str b))) := fun H1 _ _ q => ⟨rfl, q H1 (Evl.Ex.refl H1)⟩
section
variable {X : Cx} {o o2 o3 o4 ix : Expr} {to : TE}
theorem pe_ascii {apos pos : Pos} (ho : PE X o to) (hbase : attributeBase o "isascii" X.env (eval o X.env) = eval o X.env := by rfl) (hline : (apos.endLine == pos.line) = true := by rfl) :
    PE X (.Call (.Attribute o "isascii" apos) [] [] pos) (tM0 (fun x xs H Q => ∃ a, x = .str a ∧ xs = [] ∧ True ∧ Q (.bl (Txt.isascii a)) H) to) :=
  pe_m0 PySem.F.slot_str_isascii PySem.F.type_str_isascii mt_isascii ho hbase hline
theorem pe_alnum {apos pos : Pos} (ho : PE X o to) (hbase : attributeBase o "isalnum" X.env (eval o X.env) = eval o X.env := by rfl) (hline : (apos.endLine == pos.line) = true := by rfl) :
    PE X (.Call (.Attribute o "isalnum" apos) [] [] pos) (tM0 (fun x xs H Q => ∃ a, x = .str a ∧ xs = [] ∧ True ∧ Q (.bl (Txt.isalnum a)) H) to) :=
  pe_m0 PySem.F.slot_str_isalnum PySem.F.type_str_isalnum mt_isalnum ho hbase hline
theorem pe_digit {apos pos : Pos} (ho : PE X o to) (hbase : attributeBase o "isdigit" X.env (eval o X.env) = eval o X.env := by rfl) (hline : (apos.endLine == pos.line) = true := by rfl) :
    PE X (.Call (.Attribute o "isdigit" apos) [] [] pos) (tM0 (fun x xs H Q => ∃ a, x = .str a ∧ xs = [] ∧ True ∧ Q (.bl (Txt.isdigit a)) H) to) :=
  pe_m0 PySem.F.slot_str_isdigit PySem.F.type_str_isdigit mt_isdigit ho hbase hline
end
end BW
namespace K04
open PySem PySem.Spec PyProof.Rows L2 BW
abbrev sIsName : Stmt := topS 8
abbrev sIsList : Stmt := topS 9
abbrev sAreNames : Stmt := topS 10
abbrev sIsCell : Stmt := topS 11
/-- the names of the top that the defs read -/
structure Tx (mg : Str → Option Value) : Prop where
  isi : mg "isinstance" = none
  int : mg "int" = none
  str : mg "str" = none
  bool : mg "bool" = none
  list : mg "list" = none
  tuple : mg "tuple" = none
  len : mg "len" = none
  all : mg "all" = none
  rng : mg "range" = none
  mx : mg "max" = none
  srt : mg "sorted" = none
  set_ : mg "set" = none
  enm : mg "enumerate" = none
  abs_ : mg "abs" = none
  most : ∃ t, mg "MOST_SIGNS" = some (.int 12 t)
def isI : V → Bool
  | .int _ => true
  | .bl _ => true
  | _ => false
def isB : V → Bool
  | .bl _ => true
  | _ => false
def isS : V → Bool
  | .str _ => true
  | _ => false
def isP : V → Bool
  | .int _ => true
  | _ => false
theorem kd_int {H : Hp} {v : V} {T : String} (k : Knd H v T) : kitB T "int" = some (isI v) := by
  cases k
  · exact (by decide +kernel : kitB "NoneType" "int" = some false)
  · exact (by decide +kernel : kitB "bool" "int" = some true)
  · exact (by decide +kernel : kitB "int" "int" = some true)
  · exact (by decide +kernel : kitB "str" "int" = some false)
  · exact (by decide +kernel : kitB "list" "int" = some false)
  · exact (by decide +kernel : kitB "tuple" "int" = some false)
  · exact (by decide +kernel : kitB "dict" "int" = some false)
theorem kd_bool {H : Hp} {v : V} {T : String} (k : Knd H v T) : kitB T "bool" = some (isB v) := by
  cases k
  · exact (by decide +kernel : kitB "NoneType" "bool" = some false)
  · exact (by decide +kernel : kitB "bool" "bool" = some true)
  · exact (by decide +kernel : kitB "int" "bool" = some false)
  · exact (by decide +kernel : kitB "str" "bool" = some false)
  · exact (by decide +kernel : kitB "list" "bool" = some false)
  · exact (by decide +kernel : kitB "tuple" "bool" = some false)
  · exact (by decide +kernel : kitB "dict" "bool" = some false)
theorem kd_str {H : Hp} {v : V} {T : String} (k : Knd H v T) : kitB T "str" = some (isS v) := by
  cases k
  · exact (by decide +kernel : kitB "NoneType" "str" = some false)
  · exact (by decide +kernel : kitB "bool" "str" = some false)
  · exact (by decide +kernel : kitB "int" "str" = some false)
  · exact (by decide +kernel : kitB "str" "str" = some true)
  · exact (by decide +kernel : kitB "list" "str" = some false)
  · exact (by decide +kernel : kitB "tuple" "str" = some false)
  · exact (by decide +kernel : kitB "dict" "str" = some false)
theorem kd_list {H : Hp} {v : V} {T : String} (k : Knd H v T) : kitB T "list" = some (T == "list") := by
  cases k
  · exact (by decide +kernel : kitB "NoneType" "list" = some false)
  · exact (by decide +kernel : kitB "bool" "list" = some false)
  · exact (by decide +kernel : kitB "int" "list" = some false)
  · exact (by decide +kernel : kitB "str" "list" = some false)
  · exact (by decide +kernel : kitB "list" "list" = some true)
  · exact (by decide +kernel : kitB "tuple" "list" = some false)
  · exact (by decide +kernel : kitB "dict" "list" = some false)
theorem kd_tuple {H : Hp} {v : V} {T : String} (k : Knd H v T) : kitB T "tuple" = some (T == "tuple") := by
  cases k
  · exact (by decide +kernel : kitB "NoneType" "tuple" = some false)
  · exact (by decide +kernel : kitB "bool" "tuple" = some false)
  · exact (by decide +kernel : kitB "int" "tuple" = some false)
  · exact (by decide +kernel : kitB "str" "tuple" = some false)
  · exact (by decide +kernel : kitB "list" "tuple" = some false)
  · exact (by decide +kernel : kitB "tuple" "tuple" = some true)
  · exact (by decide +kernel : kitB "dict" "tuple" = some false)
def seqT (T : String) : Bool := T == "list" || T == "tuple"
section
variable {P : Program} {w : World} {K : PySem.W.Frag} {mg : Str → Option Value} {base : Heap}
def spK (f : V → Bool) : Sp := fun vs H Q _ => ∃ (v : V) (T : String), vs = [v] ∧ Knd H v T ∧ Evl.RetV (.bl (f v)) H Q
theorem sp_k {g : V → Bool} {v : V} {T : String} {H : Hp} (k : Knd H v T) : Evl.SpV (spK g) ([v] ++ []) H (.bl (g v)) := fun H1 e Q q _ => ⟨v, T, rfl, k.mono e, q⟩
theorem sc_in : FnScope ["value", "sign"] ["value"] (defScope sIsName) := ⟨rfl, rfl, rfl, by decide +kernel, rfl, by decide +kernel, by decide +kernel⟩
theorem isName_str {v : V} (h : isS v = false) : isName v = false := by
  cases v <;> first | rfl | cases h
theorem len_list (z : Str) : z.cps.toList.length = z.length := Array.length_toList
theorem ok_isname {f : Addr} {fd : FuncData} {k : Nat} (T : Tx mg) (F : Fun K "is_name" "is_name" sIsName f fd) : FnOk P w K mg base CX0 (k + 1) f fd ["value"] (spK isName) := by
  refine F.ok sc_in (fun vs H Q E h => ?_) (fun cdv A outer s H vs Q E hr h => ?_)
  · obtain ⟨v, t, rfl, _⟩ := h
    rfl
  · obtain ⟨v, t, rfl, kd, q⟩ := h
    have nd := sc_in.nd
    obtain ⟨tM, gM⟩ := T.most
    refine ⟨_, pss_cons (ps_if (PW.pt (pw_or (pt_not (pt_val (pe_callB call_isi (by rfl) T.isi (by decide +kernel) (pa_cons (pv 0) (pa_cons (pe_bltn (v := .ty "str") (by rfl) T.str (by decide +kernel) rfl) pa_nil)))))
        (pw_or1 (pt_not (pt_chain op_le op_le pe_int (pe_callB call_len_str (by rfl) T.len PySem.boot_len (pa_cons (pv 0) pa_nil)) (pe_glob (v := .int 12) rfl gM ⟨_, rfl⟩))))))
        (pss_one (ps_ret pe_bl)) pss_nil)
      (pss_one (ps_ret (pe_and (pe_ascii (pv 0)) (pe_and (pe_alnum (pv 0)) (pe_and (pe_cmpR op_eq (pv 0) (pe_lower (pv 0)) (nomark _)) (pe_one (pe_not (pe_digit (pe_ix ix_str (pv 0) pe_int (fun _ _ => rfl)))))))))), ?_⟩
    cases hs : isS v with
    | false =>
      refine Evl.q_when (b := true) (Evl.et_or (a := true) (b := true) (Evl.et_is (Evl.et_not (Evl.et_B (ev_isi (Evl.ev_var rfl) kd (kd_str kd)))) (by rw [hs]; rfl)) (fun z => nomatch z)) (fun _ H1 e1 => ?_) (fun z => nomatch z)
      exact Evl.s_ret Evl.ev_c fun H2 e2 => by
        rw [isName_str hs] at q
        exact q.go (e1.trans e2)
    | true =>
      cases kd with
      | @str z hz =>
        have z1 : (z.length : Nat) ≤ 100000 := by omega
        refine Evl.q_when (b := !(decide ((1 : Int) ≤ (z.length : Int)) && decide ((z.length : Int) ≤ 12))) (Evl.et_or (a := false) (Evl.et_is (Evl.et_not (Evl.et_B (ev_isi (Evl.ev_var rfl) (.str hz) (kd_str (H := H) (.str hz))))) rfl)
          (fun _ => Evl.et_not (et_chain Evl.ev_c (Evl.ev_cb (Evl.ea_cons (Evl.ev_var rfl) Evl.ea_nil) (fun H1 _ Q q => ⟨z, rfl, Evl.sz_of z1, q H1 (Evl.Ex.refl H1)⟩)) Evl.ev_c Evl.rv_I0 Evl.rv_I0))) (fun hb H1 e1 => ?_) (fun hb H1 e1 => ?_)
        · refine Evl.s_ret Evl.ev_c fun H2 e2 => ?_
          have hn : isName (.str z) = false := by
            show nameB z = false
            unfold nameB
            have hl := len_list z
            split
            · rfl
            · rename_i c r he
              rw [he] at hl
              have h13 : ¬ z.length ≤ 12 := fun h => by
                rw [List.length_cons] at hl
                rw [decide_eq_true (by omega : (1 : Int) ≤ (z.length : Int)), decide_eq_true (by omega : (z.length : Int) ≤ 12)] at hb
                cases hb
              rw [decide_eq_false h13]
              rfl
          rw [hn] at q
          exact q.go (e1.trans e2)
        · have hl := len_list z
          have hb2 : (decide ((1 : Int) ≤ (z.length : Int)) && decide ((z.length : Int) ≤ 12)) = true := by
            cases hx : (decide ((1 : Int) ≤ (z.length : Int)) && decide ((z.length : Int) ≤ 12)) with
            | true => rfl
            | false =>
              rw [hx] at hb
              cases hb
          rw [Bool.and_eq_true, decide_eq_true_eq, decide_eq_true_eq] at hb2
          cases he : z.cps.toList with
          | nil =>
            rw [he] at hl
            have hl0 : 0 = z.length := hl
            omega
          | cons c r =>
            have hat : atI z.cps.toList 0 = some c := atI_nat (j := 0) (by rw [he]; rfl)
            refine Evl.s_ret (v := .bl (isLet c && (c :: r).all fun c => isLet c || isDig c)) ?_ (fun H2 e2 => ?_)
            · rw [← name_new he]
              exact Evl.ev_andV (ev_m0 (Evl.ev_var rfl) fun _ _ q => ⟨z, rfl, rfl, trivial, q⟩) fun _ => Evl.ev_andV (ev_m0 (Evl.ev_var rfl) fun _ _ q => ⟨z, rfl, rfl, trivial, q⟩) fun _ =>
                Evl.ev_andV (Evl.ev_op (Evl.ev_var rfl) (ev_m0 (Evl.ev_var rfl) fun _ _ q => ⟨z, rfl, rfl, by omega, q⟩) rv_strEq) fun _ =>
                  Evl.ev_notV (ev_m0 (Evl.ev_op (Evl.ev_var rfl) Evl.ev_c (Evl.rv_ixS z1 hat)) fun _ _ q => ⟨⟨#[c]⟩, rfl, rfl, trivial, q⟩)
            · have hn : isName (.str z) = (isLet c && (c :: r).all fun c => isLet c || isDig c) := by
                show nameB z = _
                unfold nameB
                rw [he]
                dsimp only
                rw [decide_eq_true (by omega : z.length ≤ 12), Bool.true_and]
              rw [hn] at q
              exact q.go (e1.trans e2)
      | _ => cases hs
end
def spS (f : Option (List V) → Bool) : Sp := fun vs H Q _ => ∃ (v : V) (o : Option (List V)), vs = [v] ∧ Seen H v o ∧ Evl.RetV (.bl (f o)) H Q
def namesO : Option (List V) → Bool
  | none => false
  | some xs => xs.all isName
def ltV : V → V → Bool
  | .str a, .str b => decide (a.cps.toList < b.cps.toList)
  | _, _ => false
def ascB (xs : List V) : Bool := (List.range (xs.length - 1)).all fun i => ltV (xs.getD i .non) (xs.getD (i + 1) .non)
def cellO : Option (List V) → Bool
  | none => false
  | some xs => xs.all isName && ascB xs
theorem name_str {v : V} (h : isName v = true) : ∃ z, v = .str z := by
  cases v <;> first | exact ⟨_, rfl⟩ | cases h
theorem get_str {xs : List V} (h : xs.all isName = true) {i : Nat} (hi : i < xs.length) : ∃ z, xs[i]? = some (.str z) ∧ xs.getD i .non = .str z := by
  have hx : xs[i]? = some xs[i] := List.getElem?_eq_getElem hi
  obtain ⟨z, e⟩ := name_str (List.all_eq_true.mp h _ (List.getElem_mem hi))
  refine ⟨z, by rw [hx, e], ?_⟩
  rw [List.getD_eq_getElem?_getD, hx, e]
  rfl
section
variable {P : Program} {w : World} {K : PySem.W.Frag} {mg : Str → Option Value} {base : Heap}
theorem sc_il : FnScope ["value"] ["value"] (defScope sIsList) := ⟨rfl, rfl, rfl, by decide +kernel, rfl, by decide +kernel, by decide +kernel⟩
theorem ev_isSeq {ta : TE} {σ : L2.St} {H : Hp} {v : V} {o : Option (List V)} (ha : Evl.Ev ta σ H v) (sv : Seen H v o) :
    Evl.Ev (tCB (rIsiT K) (tCons ta (tCons (tTup (tCons (tC (.ty "list")) (tCons (tC (.ty "tuple")) tNil))) tNil))) σ H (.bl o.isSome) := by
  obtain ⟨T, kd, e⟩ := sv.kind
  rw [← e]
  exact ev_isi2 ha kd (kd_list kd) (kd_tuple kd)
theorem ok_islist {f : Addr} {fd : FuncData} {k : Nat} (T : Tx mg) (F : Fun K "is_list" "is_list" sIsList f fd) : FnOk P w K mg base CX0 (k + 1) f fd ["value"] (spS Option.isSome) := by
  refine F.ok sc_il (fun vs H Q E h => ?_) (fun cdv A outer s H vs Q E hr h => ?_)
  · obtain ⟨v, o, rfl, _⟩ := h
    rfl
  · obtain ⟨v, o, rfl, sv, q⟩ := h
    refine ⟨_, pss_one (ps_ret (pe_callB call_isiT (by rfl) T.isi (by decide +kernel) (pa_cons (pv 0) (pa_cons (pe_tup (pa_cons (pe_bltn (v := .ty "list") (by rfl) T.list (by decide +kernel) rfl) (pa_cons (pe_bltn (v := .ty "tuple") (by rfl) T.tuple (by decide +kernel) rfl) pa_nil))) pa_nil)))), ?_⟩
    exact Evl.s_ret (ev_isSeq (Evl.ev_var rfl) sv) fun H1 e => q.go e
theorem sp_s {f : Option (List V) → Bool} {v : V} {o : Option (List V)} {H : Hp} (k : Seen H v o) : Evl.SpV (spS f) ([v] ++ []) H (.bl (f o)) := fun H1 e Q q _ => ⟨v, o, rfl, k.mono e, q⟩
theorem sc_an : FnScope ["value", "name"] ["value"] (defScope sAreNames) := ⟨rfl, rfl, rfl, by decide +kernel, rfl, by decide +kernel, by decide +kernel⟩
theorem ok_arenames {f fL fN : Addr} {fd fdL fdN : FuncData} {k : Nat} (T : Tx mg) (F : Fun K "are_names" "are_names" sAreNames f fd) (L : Df P w K mg base (k + 1) "is_list" ["value"] (spS Option.isSome) fL fdL) (N : Df P w K mg base (k + 1) "is_name" ["value"] (spK isName) fN fdN) :
    FnOk P w K mg base CX0 (k + 2) f fd ["value"] (spS namesO) := by
  refine F.ok sc_an (fun vs H Q E h => ?_) (fun cdv A outer s H vs Q E hr h => ?_)
  · obtain ⟨v, o, rfl, _⟩ := h
    rfl
  · obtain ⟨v, o, rfl, sv, q⟩ := h
    have nd := sc_an.nd
    refine ⟨_, pss_one (ps_ret (pe_and (pe_df L hr (pa_cons (pv 0) pa_nil)) (pe_one (pe_callB (cr_all rfl) (by rfl) T.all (by decide +kernel) (pa_cons (pe_lc (own := [("name", 1)]) (g := gName 1) (tt := tYes) rfl nd (pi_seq (pv 0))
          (blkOk_by (N := ["value", "name"]) (sc := defScope sAreNames) (by decide +kernel)) (fun _ _ _ _ _ => pg_name (i := 1) nd rfl (Or.inl rfl)) (fun _ _ _ _ _ => pts_nil)
          (fun _ _ _ _ _ => pe_df N hr (pa_cons (pv 1) pa_nil))) pa_nil))))), ?_⟩
    refine Evl.s_ret (v := .bl (namesO o)) ?_ fun H1 e => q.go e
    cases o with
    | none => exact Evl.ev_andV (a := false) (b := false) (Evl.ev_call (Evl.ea_cons (Evl.ev_var rfl) Evl.ea_nil) (sp_s sv)) (fun z => nomatch z)
    | some xs =>
      obtain ⟨a, rfl, hx, hl, he⟩ := sv.seq (K := K)
      refine Evl.ev_andV (a := true) (b := xs.all isName) (Evl.ev_call (Evl.ea_cons (Evl.ev_var rfl) Evl.ea_nil) (sp_s sv)) (fun _ => ?_)
      rw [← all_range_get xs isName]
      refine ev_all ?_
      rw [← given_bls]
      refine el_lcX (fun _ => true) _ (Evl.ev_var rfl) hx (by omega) (fun _ => rfl) (fun i x H1 e1 hi => fun H2 e2 Q q => q H2 (Evl.Ex.refl H2)) (fun i x H1 e1 hi _ => ?_)
      have hg : xs.getD i .non = x := by
        rw [List.getD_eq_getElem?_getD, hi]
        rfl
      rw [hg]
      obtain ⟨t, kx⟩ := (he x (List.mem_of_getElem? hi)).knd
      exact Evl.ev_call (Evl.ea_cons (Evl.ev_var rfl) Evl.ea_nil) (sp_k (kx.mono e1))
theorem sc_ic : FnScope ["value", "at"] ["value"] (defScope sIsCell) := ⟨rfl, rfl, rfl, by decide +kernel, rfl, by decide +kernel, by decide +kernel⟩
theorem rv_ltS {a b : Str} {H : Hp} : Evl.RV (fun x y H Q => ∃ i j, x = .str i ∧ y = .str j ∧ Q (.bl (decide (i.cps.toList < j.cps.toList))) H) (.str a) (.str b) H (.bl (ltV (.str a) (.str b))) := fun H1 _ _ q => ⟨a, b, rfl, rfl, q H1 (Evl.Ex.refl H1)⟩
theorem ok_iscell {f fN : Addr} {fd fdN : FuncData} {k : Nat} (T : Tx mg) (F : Fun K "is_cell" "is_cell" sIsCell f fd) (N : Df P w K mg base (k + 1) "are_names" ["value"] (spS namesO) fN fdN) : FnOk P w K mg base CX0 (k + 2) f fd ["value"] (spS cellO) := by
  refine F.ok sc_ic (fun vs H Q E h => ?_) (fun cdv A outer s H vs Q E hr h => ?_)
  · obtain ⟨v, o, rfl, _⟩ := h
    rfl
  · obtain ⟨v, o, rfl, sv, q⟩ := h
    have nd := sc_ic.nd
    refine ⟨_, pss_cons (ps_if (pt_not (pt_val (pe_df N hr (pa_cons (pv 0) pa_nil)))) (pss_one (ps_ret pe_bl)) pss_nil)
      (pss_one (ps_ret (pe_callB (cr_all rfl) (by rfl) T.all (by decide +kernel) (pa_cons (pe_lc (own := [("at", 1)]) (g := gName 1) (tt := tYes) rfl nd (pi_range1 rfl T.rng (pa_cons (pe_op op_sub (pe_callB call_len_seq (by rfl) T.len PySem.boot_len (pa_cons (pv 0) pa_nil)) pe_int) pa_nil))
          (blkOk_by (N := ["value", "at"]) (sc := defScope sIsCell) (by decide +kernel)) (fun _ _ _ _ _ => pg_name (i := 1) nd rfl (Or.inl rfl)) (fun _ _ _ _ _ => pts_nil)
          (fun _ _ _ _ _ => pe_cmpR op_lt_str (pe_ix (show IxR _ (rIxX K) from ix_seq) (pv 0) (pv 1) (fun _ _ => rfl)) (pe_ix (show IxR _ (rIxX K) from ix_seq) (pv 0) (pe_op op_add (pv 1) pe_int) (fun _ _ => rfl)) (by rfl))) pa_nil)))), ?_⟩
    refine Evl.q_when (b := !namesO o) (Evl.et_not (Evl.et_B (Evl.ev_call (Evl.ea_cons (Evl.ev_var rfl) Evl.ea_nil) (sp_s sv)))) (fun hb H1 e1 => ?_) (fun hb H1 e1 => ?_)
    · refine Evl.s_ret Evl.ev_c fun H2 e2 => ?_
      have hn : cellO o = false := by
        cases o with
        | none => rfl
        | some xs =>
          have hx : xs.all isName = false := by
            cases h : xs.all isName with
            | false => rfl
            | true =>
              have hb' : (!(xs.all isName)) = true := hb
              rw [h] at hb'
              cases hb'
          show (xs.all isName && ascB xs) = false
          rw [hx]
          rfl
      rw [hn] at q
      exact q.go (e1.trans e2)
    · cases o with
      | none => cases hb
      | some xs =>
        have hx : xs.all isName = true := by
          cases h : xs.all isName with
          | true => rfl
          | false =>
            have hb' : (!(xs.all isName)) = false := hb
            rw [h] at hb'
            cases hb'
        obtain ⟨a, rfl, hs, hl, he⟩ := (sv.mono e1).seq (K := K)
        refine Evl.s_ret (v := .bl (ascB xs)) ?_ fun H2 e2 => ?_
        · have hasc : ascB xs = ((List.range ((xs.length : Int) - 1).toNat).map fun i => ltV (xs.getD i .non) (xs.getD (i + 1) .non)).all id := by
            rw [List.all_map]
            have e0 : ((xs.length : Int) - 1).toNat = xs.length - 1 := by omega
            rw [e0]
            rfl
          rw [hasc]
          refine ev_all ?_
          rw [← given_bls]
          refine el_lcRg (fun _ => true) _ (Evl.ea_cons (Evl.ev_op (Evl.ev_cb (Evl.ea_cons (Evl.ev_var rfl) Evl.ea_nil) (fun H2 e2 Q q => ⟨a, xs, rfl, hs.ex e2, q H2 (Evl.Ex.refl H2)⟩)) Evl.ev_c Evl.rv_I0) Evl.ea_nil) (by omega) (fun _ => rfl)
            (fun i H2 e2 hi => fun H3 e3 Q q => q H3 (Evl.Ex.refl H3)) (fun i H2 e2 hi _ => ?_)
          obtain ⟨z, hz, gz⟩ := get_str hx (i := i) (by omega)
          obtain ⟨y, hy, gy⟩ := get_str hx (i := i + 1) (by omega)
          rw [gz, gy]
          exact Evl.ev_op (Evl.ev_op (Evl.ev_var rfl) (Evl.ev_var rfl) (rv_ixX (hs.ex e2) (atI_nat hz))) (Evl.ev_op (Evl.ev_var rfl) (Evl.ev_op (Evl.ev_var rfl) Evl.ev_c Evl.rv_I0) (rv_ixX (hs.ex e2) (atI_nat (j := i + 1) hy))) rv_ltS
        · have hn : cellO (some xs) = ascB xs := by
            show (xs.all isName && ascB xs) = ascB xs
            rw [hx]
            rfl
          rw [hn] at q
          exact q.go (e1.trans e2)
end
end K04
/-! Objects whose class is one of several: methods, == by the class that the object has. -/
namespace BW
open PySem PySem.Spec PyProof.Rows L2
/-- the method m of the class C: its def keeps sp at level k -/
structure Md (P : Program) (w : World) (K : PySem.W.Frag) (mg : Str → Option Value) (base : Heap) (CX : CXT) (k : Nat) (m : Str) (C : Addr) (sp : Sp) : Prop where
  cl : Cls K C
  ex : ∃ (f : Addr) (fd : FuncData) (ps : List Str), Meth K C m f ∧ FnOk P w K mg base CX k f fd ps sp ∧ Binds K fd ps []
/-- o.m(..), o an instance of a class of which R tells the promise -/
def tMethD (R : Addr → Sp → Prop) (m : Str) (E : XK) (ta : TE) (t : TA) : TE := fun σ H Q => ta σ H fun x H1 => ∃ a C dx fs sp, x = .ref a ∧ H1 a = some (.ins C dx fs) ∧ fs.lookup m = none ∧ R C sp ∧ t σ H1 fun vs H2 => sp (x :: vs) H2 Q E
section
variable {X : Cx} {k : Nat} {CX : CXT} {E : XK} {R : Addr → Sp → Prop} {o e : Expr} {es : List Expr} {m : Str} {pos apos : Pos} {ta : TE} {t : TA}
theorem pe_methD {pl : Sem Bool} (he : PE X o ta) (D : ∀ C sp, R C sp → Md X.prog X.w X.K X.mg X.base CX k m C sp) (hr : Room k X.A) (hx : Passes CX X E) (ha : PA X (e :: es) t)
    (hst : starEach (e :: es) X.env = (false, eval e X.env) :: starEach es X.env := by rfl) (hpl : (backTo pos (starEach es X.env)).any (·.1) = false := by rfl)
    (ht : eval (.Call (.Attribute o m apos) (e :: es) [] pos) X.env = (do
      let ov ← eval o X.env
      standAt apos.atName
      let (f, first) ← holding [ov] (getMethod ov m pl)
      callWith pos f first (backTo pos (starEach (e :: es) X.env)) (backToKw pos (keywordEach [] X.env))) := by rfl) :
    PE X (.Call (.Attribute o m apos) (e :: es) [] pos) (tMethD R m E ta t) := by
  refine ⟨fun pins s σ H Q I h => ?_⟩
  refine PySem.W.methodCall_KW (pl := pl) (thn (he.run pins s σ H _ I h) fun u s1 ⟨x, H1, I1, rx, a, C, dx, fs, sp, ex, ea, l, hR, q⟩ => ?_) ht
  subst ex
  obtain rfl : u = Value.ref a := rx
  obtain ⟨cl, f, fd, ps, hm, F, hb⟩ := D C sp hR
  refine getmeth_ok I1 ea cl hm l ?_
  refine PySem.W.callWith_K (first := [.ref a]) (h₀ := X.base) I.ok.mod.kin hm.kp (thn (ha.run pos pins s1 σ H1 _ I1 q) fun us s2 ⟨vs, H2, I2, r, q2⟩ => ⟨I2.kIn, ?_⟩) hst hpl
  refine run_fn (us := .ref a :: us) (vs := .ref a :: vs) F hr hb .nil hx I2 (.cons rfl r) ?_
  rw [List.append_nil]
  exact q2
theorem pe_methD0 {pl : Sem Bool} (he : PE X o ta) (D : ∀ C sp, R C sp → Md X.prog X.w X.K X.mg X.base CX k m C sp) (hr : Room k X.A) (hx : Passes CX X E)
    (ht : eval (.Call (.Attribute o m apos) [] [] pos) X.env = (do
      let ov ← eval o X.env
      standAt apos.atName
      let (f, first) ← holding [ov] (getMethod ov m pl)
      callWith pos f first (backTo pos (starEach [] X.env)) (backToKw pos (keywordEach [] X.env))) := by rfl) :
    PE X (.Call (.Attribute o m apos) [] [] pos) (tMethD R m E ta tNil) := by
  refine ⟨fun pins s σ H Q I h => ?_⟩
  refine PySem.W.methodCall_KW (pl := pl) (thn (he.run pins s σ H _ I h) fun u s1 ⟨x, H1, I1, rx, a, C, dx, fs, sp, ex, ea, l, hR, q⟩ => ?_) ht
  subst ex
  obtain rfl : u = Value.ref a := rx
  obtain ⟨cl, f, fd, ps, hm, F, hb⟩ := D C sp hR
  refine getmeth_ok I1 ea cl hm l ?_
  exact PySem.W.callWith_K0 (first := [.ref a]) I1.kIn hm.kp (run_fn (us := [.ref a]) (vs := [.ref a]) F hr hb .nil hx I1 (.cons rfl .nil) q)
/-- the class of what stands on the right of == -/
def YTy (y : V) (H : Hp) (tb : Value) : Prop := (∃ z, y = .str z ∧ tb = .type "str") ∨ ∃ b C dx fs, y = .ref b ∧ H b = some (.ins C dx fs) ∧ tb = .ref C
/-- x == y, x an instance of a class of which R tells what its own == keeps -/
def rEqO (K : PySem.W.Frag) (R : Addr → Sp → Prop) (E : XK) : R2 := fun x y H Q => ∃ a C dx fs sp tb, x = .ref a ∧ H a = some (.ins C dx fs) ∧ YTy y H tb ∧ PySem.W.notFirst K C tb = true ∧ R C sp ∧ sp [x, y] H Q E
theorem run_eqO {pins : List (Addr × Obj)} {σ : L2.St} {H : Hp} {s : Shared} {A : Around} {P : Value → Shared → Prop} {a C dx : Addr} {fs : List (Str × V)} {y : V} {u tb : Value} {Q : VK} {sp : Sp} (M : Md X.prog X.w X.K X.mg X.base CX k "__eq__" C sp)
    (hr : Room k A) (hfr : A.frames = X.A.frames) (hx : Passes CX X E) (I : Inv X pins σ H s) (ha : H a = some (.ins C dx fs)) (ry : RelV y u) (ty : YTy y H tb) (hn : PySem.W.notFirst X.K C tb = true) (q : sp [.ref a, y] H Q E)
    (hp : ∀ z v s' H', RelV z v → Inv X pins σ H' s' → Q z H' → P v s') : wpAny (model X.prog X.w) A (richCompare .Eq (.ref a) u) P X.xe s := by
  obtain ⟨cl, f, fd, ps, hm, F, hb⟩ := M
  obtain ⟨mA, J, _⟩ := ins_get I.hok ha
  obtain ⟨od, J, _⟩ := J.look
  obtain ⟨m, hF⟩ := I.fr
  have lk : PySem.W.Looks (model X.prog X.w) s.heap (typeOf u) tb := by
    rcases ty with ⟨z, rfl, rfl⟩ | ⟨b, C', dy, gs, rfl, hb', rfl⟩
    · obtain ⟨t, rfl⟩ := (show ∃ t, u = Value.str z t from ry)
      intro A Q E s _ q
      exact wpAny_of_eq rfl q
    · cases (show u = Value.ref b from ry)
      obtain ⟨mB, J', _⟩ := ins_get I.hok hb'
      obtain ⟨od', J', _⟩ := J'.look
      exact J'.type
  refine PySem.W.cmp_K (op := .Eq) (tb := tb) hr.units0 hF I.ok.mod.kin J lk hn hm.at_ hm.fn ?_
  have e0 : Env0 X.prog X.w X.K X.mg X.base A X.stack s H := by
    have e := I.env0
    exact ⟨by rw [hfr]; exact e.frames, e.mod, e.bs, e.bsz, e.funs, e.frf, e.hok, e.bare⟩
  have r2 : Vals [V.ref a, y] [Value.ref a, u] := .cons rfl (.cons ry .nil)
  have hl := F.len _ _ _ _ q
  refine wpAny_call (codeAny_mono (F.run A X.stack s H ⟨[.ref a, u], []⟩ [.ref a, u] [.ref a, y] _ E hr e0 (by
    have := hb s [.ref a, u] I.kIn (by simpa using hl)
    simpa using this) r2 q) fun r s' hq => ?_)
  cases r with
  | error e => exact hx pins σ H s e s' I hq
  | ok fl =>
    cases fl with
    | ret w =>
      obtain ⟨z, H', I', rz, qz⟩ := I.after hq
      exact SlX.cmpback rz (hp z w s' H' rz I' qz)
    | next => exact False.elim hq
    | brk => exact False.elim hq
    | cont => exact False.elim hq
theorem op_eqO (D : ∀ C sp, R C sp → Md X.prog X.w X.K X.mg X.base CX k "__eq__" C sp) (hr : Room k X.A) (hx : Passes CX X E) : OpR X (compareOp .Eq) (rEqO X.K R E) := by
  intro pins s σ H x y v u Q I rx ry h
  obtain ⟨a, C, dx, fs, sp, tb, rfl, ha, ty, hn, hR, q⟩ := h
  cases (show v = Value.ref a from rx)
  show wpAny (model X.prog X.w) X.A (richCompare .Eq (.ref a) u) (EP X pins σ Q) X.xe s
  exact run_eqO (D C sp hR) hr rfl hx I ha ry ty hn q fun z w s' H' rz I' qz => ⟨z, H', I', rz, qz⟩
/-- a def's call at any around of this body -/
theorem run_at {pins : List (Addr × Obj)} {σ : L2.St} {H : Hp} {s : Shared} {A : Around} {P : Value → Shared → Prop} {f : Addr} {fd : FuncData} {ps : List Str} {us : List Value} {vs : List V} {Q : VK} {sp : Sp} (F : FnOk X.prog X.w X.K X.mg X.base CX k f fd ps sp) (hb : Binds X.K fd ps [])
    (hr : Room k A) (hfr : A.frames = X.A.frames) (hx : Passes CX X E) (I : Inv X pins σ H s) (r2 : Vals vs us) (q : sp vs H Q E)
    (hp : ∀ z v s' H', RelV z v → Inv X pins σ H' s' → Q z H' → P v s') : wpAny (model X.prog X.w) A (call (.ref f) us) P X.xe s := by
  have e0 : Env0 X.prog X.w X.K X.mg X.base A X.stack s H := by
    have e := I.env0
    exact ⟨by rw [hfr]; exact e.frames, e.mod, e.bs, e.bsz, e.funs, e.frf, e.hok, e.bare⟩
  have hl := F.len _ _ _ _ q
  have hl2 : us.length = ps.length := by
    have h1 := r2.length
    omega
  refine wpAny_call (codeAny_mono (F.run A X.stack s H ⟨us, []⟩ us vs _ E hr e0 (by
    have := hb s us I.kIn (by simpa using hl2)
    simpa using this) r2 q) fun r s' hq => ?_)
  cases r with
  | error e => exact hx pins σ H s e s' I hq
  | ok fl =>
    cases fl with
    | ret w =>
      obtain ⟨z, H', I', rz, qz⟩ := I.after hq
      exact hp z w s' H' rz I' qz
    | next => exact False.elim hq
    | brk => exact False.elim hq
    | cont => exact False.elim hq
/-- what formatting asks of the class -/
structure FmtC (K : PySem.W.Frag) (C : Addr) : Prop where
  fm : PySem.W.findIn K (.ref C) "__format__" = some (some (.builtin "object.__format__"))
  ob : PySem.W.mroIn K C (.type "object") = some true
/-- {e} and str(e), e an instance of a class of which R tells what its own text keeps -/
def rStrO (R : Addr → Sp → Prop) (E : XK) (x : V) (H : Hp) (Q : VK) : Prop := ∃ a C dx fs sp, x = .ref a ∧ H a = some (.ins C dx fs) ∧ R C sp ∧ sp [x] H (fun v H2 => ∃ y, v = .str y ∧ Q v H2) E
theorem pe_fmtO {te : TE} (he : PE X e te) (D : ∀ C sp, R C sp → Md X.prog X.w X.K X.mg X.base CX k "__str__" C sp ∧ FmtC X.K C) (hr : Room (k + 1) X.A) (hx : Passes CX X E) : PE X (.FormattedValue e (-1) none pos) (fun σ H Q => te σ H fun x H1 => rStrO R E x H1 Q) := by
  refine ⟨fun pins s σ H Q I h => ?_⟩
  refine wpAny_FormattedValue_plain (thn (he.run pins s σ H _ I h) fun v s1 hv => ?_)
  obtain ⟨x, H1, I1, r1, a, C, dx, fs, sp, rfl, ha, hR, q⟩ := hv
  cases (show v = Value.ref a from r1)
  obtain ⟨⟨cl, f, fd, ps, hm, F, hb⟩, hf⟩ := D C sp hR
  obtain ⟨mA, J, _⟩ := ins_get I1.hok ha
  obtain ⟨od, J, _⟩ := J.look
  refine PySem.W.kfo_fieldS hr.in1.units0 I1.kIn J hf.fm hf.ob hm.at_ hm.fn ?_
  refine run_at (vs := [V.ref a]) F hb hr.in1 rfl hx (I1.tok _) (.cons rfl .nil) q fun z v s' H' rz I' qz => ?_
  obtain ⟨y, rfl, qz⟩ := qz
  obtain ⟨t, rfl⟩ := rz
  exact ⟨.str y, H', I', ⟨t, rfl⟩, qz⟩
theorem call_strO (D : ∀ C sp, R C sp → Md X.prog X.w X.K X.mg X.base CX k "__str__" C sp) (hr : Room (k + 2) X.A) (hx : Passes CX X E) : CallR X (.type "str") (fun xs H Q => ∃ x, xs = [x] ∧ rStrO R E x H Q) := by
  intro pins s σ H xs us Q I r h
  obtain ⟨x, rfl, a, C, dx, fs, sp, rfl, ha, hR, q⟩ := h
  obtain ⟨u, rfl, r1⟩ := vals1 r
  cases (show u = Value.ref a from r1)
  obtain ⟨cl, f, fd, ps, hm, F, hb⟩ := D C sp hR
  obtain ⟨mA, J, _⟩ := ins_get I.hok ha
  obtain ⟨od, J, _⟩ := J.look
  refine PySem.W.kso_call hr.in1.in1.units0 I.kIn J hm.at_ hm.fn ?_
  refine run_at (vs := [V.ref a]) F hb hr.in1.in1 rfl hx I (.cons rfl .nil) q fun z v s' H' rz I' qz => ?_
  obtain ⟨y, rfl, qz⟩ := qz
  obtain ⟨t, rfl⟩ := rz
  exact ⟨.str y, H', I', ⟨t, rfl⟩, qz⟩
/-- C.m is a staticmethod: its record at p, its def at g -/
structure SMet (K : PySem.W.Frag) (C : Addr) (mc : Value) (m : Str) (p g : Addr) : Prop where
  at_ : PySem.W.findCls K (.ref C) mc m = some (.get (.builtin "staticmethod.__get__") (.ref p) .none (.ref C))
  rc : ∃ rest, PySem.W.recIn K p "staticmethod" = some (.ref g :: rest)
  kp : PySem.W.keepIn K (.ref g) = true
/-- C.m(..), m a staticmethod -/
def tSMeth (C : Addr) (sp : Sp) (E : XK) (ta : TE) (t : TA) : TE := fun σ H Q => ta σ H fun x H1 => x = .ref C ∧ t σ H1 fun vs H2 => sp vs H2 Q E
theorem pe_smeth {C p g : Addr} {mc : Value} {pl : Sem Bool} {sp : Sp} {fd : FuncData} {ps : List Str} (he : PE X o ta) (r : ClX.CRead X.K C mc) (c : SMet X.K C mc m p g) (F : FnOk X.prog X.w X.K X.mg X.base CX k g fd ps sp) (hb : Binds X.K fd ps []) (hr : Room k X.A) (hx : Passes CX X E) (ha : PA X (e :: es) t)
    (hst : starEach (e :: es) X.env = (false, eval e X.env) :: starEach es X.env := by rfl) (hpl : (backTo pos (starEach es X.env)).any (·.1) = false := by rfl)
    (ht : eval (.Call (.Attribute o m apos) (e :: es) [] pos) X.env = (do
      let ov ← eval o X.env
      standAt apos.atName
      let (f, first) ← holding [ov] (getMethod ov m pl)
      callWith pos f first (backTo pos (starEach (e :: es) X.env)) (backToKw pos (keywordEach [] X.env))) := by rfl) :
    PE X (.Call (.Attribute o m apos) (e :: es) [] pos) (tSMeth C sp E ta t) := by
  refine ⟨fun pins s σ H Q I h => ?_⟩
  refine PySem.W.methodCall_KW (pl := pl) (thn (he.run pins s σ H _ I h) fun u s1 ⟨x, H1, I1, rx, ex, q⟩ => ?_) ht
  subst ex
  obtain rfl : u = Value.ref C := rx
  obtain ⟨rest, hp⟩ := c.rc
  refine PySem.W.method_cls I1.kIn r.ga (PySem.W.cls_bind I1.kIn r.rd c.at_ (wpAny_call (PySem.W.sm_get (s := { s1 with toks := s1.toks + 1 }) I1.kIn hp (PySem.W.handed_on (handed_of (v := .ref g) rfl) ?_))))
  refine PySem.W.callWith_K (first := []) (h₀ := X.base) I.ok.mod.kin c.kp (thn (ha.run pos pins _ σ H1 _ (I1.tok _) q) fun us s2 ⟨vs, H2, I2, r, q2⟩ => ⟨I2.kIn, ?_⟩) hst hpl
  refine run_fn (us := us) (vs := vs) F hr hb .nil hx I2 r ?_
  rw [List.append_nil]
  exact q2
end
end BW
/-! Trees of names, the regions made of them, as they stand in a heap. -/
namespace BW
open PySem PySem.Spec PyProof.Rows L2
inductive Sg where
  | plus | star | minus
deriving DecidableEq
def Sg.str : Sg → Str
  | .plus => "+"
  | .star => "*"
  | .minus => "-"
inductive Tr where
  | leaf (z : Str)
  | node (s : Sg) (a b : Tr)
deriving DecidableEq
namespace Tr
def depth : Tr → Nat
  | leaf _ => 0
  | node _ a b => 1 + max a.depth b.depth
def leaves : Tr → List Str
  | leaf z => [z]
  | node _ a b => a.leaves ++ b.leaves
def over (cs : List Str) : Tr → Bool
  | leaf z => decide (z ∈ cs)
  | node .plus a b => a.over cs || b.over cs
  | node .star a b => a.over cs && b.over cs
  | node .minus a b => a.over cs && !b.over cs
def said : Tr → Str
  | leaf z => z
  | node s a b => s.str ++ " " ++ a.said ++ " " ++ b.said
def items : Tr → List Str
  | leaf z => [z]
  | node s a b => s.str :: (a.items ++ b.items)
def data : Tr → PyData
  | leaf z => .str z
  | node s a b => .tuple [.str s.str, a.data, b.data]
/-- every name below is as P says -/
def All (p : Str → Prop) : Tr → Prop
  | leaf z => p z
  | node _ a b => a.All p ∧ b.All p
theorem All.imp {p q : Str → Prop} (h : ∀ z, p z → q z) : ∀ {t : Tr}, t.All p → t.All q
  | leaf _, k => h _ k
  | node _ _ _, k => ⟨k.1.imp h, k.2.imp h⟩
theorem all_mem {p : Str → Prop} : ∀ {t : Tr}, t.All p → ∀ z ∈ t.leaves, p z
  | leaf _, k, _, hz => List.mem_singleton.mp hz ▸ k
  | node _ _ _, k, z, hz => (List.mem_append.mp hz).elim (all_mem k.1 z) (all_mem k.2 z)
end Tr
/-- the tree, as nested tuples -/
def TreeAt (H : Hp) : Tr → V → Prop
  | .leaf z, v => v = .str z
  | .node s a b, v => ∃ p x y, v = .ref p ∧ H p = some (.tup [.str s.str, x, y]) ∧ TreeAt H a x ∧ TreeAt H b y
theorem TreeAt.mono {H H' : Hp} (e : Evl.Ex H H') : ∀ {t : Tr} {v : V}, TreeAt H t v → TreeAt H' t v
  | .leaf _, _, h => h
  | .node _ _ _, _, ⟨p, x, y, h1, h2, h3, h4⟩ => ⟨p, x, y, h1, e _ _ h2, h3.mono e, h4.mono e⟩
/-- the four classes -/
structure RC where
  L : Addr
  S : Addr
  C : Addr
  R : Addr
def RC.of (r : RC) : Sg → Addr
  | .plus => r.S
  | .star => r.C
  | .minus => r.R
def RC.at (r : RC) : Tr → Addr
  | .leaf _ => r.L
  | .node s _ _ => r.of s
/-- the lands: each name below once, ascending -/
structure Lands (t : Tr) (ys : List Str) : Prop where
  srt : sortedS ys = true
  nd : ys.Nodup
  mem : ∀ z, z ∈ ys ↔ z ∈ t.leaves
/-- the region made of the tree -/
def RegAt (r : RC) (H : Hp) : Tr → V → Prop
  | .leaf z, v => ∃ p dx l, v = .ref p ∧ H p = some (.ins r.L dx [("name", .str z), ("lands", .ref l), ("depth", .int 0)]) ∧ H l = some (.tup [.str z])
  | .node s a b, v => ∃ p dx x y l ys, v = .ref p ∧ H p = some (.ins (r.of s) dx [("one", x), ("other", y), ("lands", .ref l), ("depth", .int ((Tr.node s a b).depth : Nat))]) ∧ RegAt r H a x ∧ RegAt r H b y ∧ H l = some (.tup (ys.map V.str)) ∧ Lands (.node s a b) ys
theorem RegAt.mono {r : RC} {H H' : Hp} (e : Evl.Ex H H') : ∀ {t : Tr} {v : V}, RegAt r H t v → RegAt r H' t v
  | .leaf _, _, ⟨p, dx, l, h1, h2, h3⟩ => ⟨p, dx, l, h1, e _ _ h2, e _ _ h3⟩
  | .node _ _ _, _, ⟨p, dx, x, y, l, ys, h1, h2, h3, h4, h5, h6⟩ => ⟨p, dx, x, y, l, ys, h1, e _ _ h2, h3.mono e, h4.mono e, e _ _ h5, h6⟩
/-- .. an object that has no attribute yet is none of its own -/
theorem RegAt.but {r : RC} {H H' : Hp} {p C dx : Addr} (hp : H p = some (.ins C dx [])) (k : ∀ b o, b ≠ p → H b = some o → H' b = some o) : ∀ {t : Tr} {v : V}, RegAt r H t v → RegAt r H' t v := by
  have ne : ∀ {b : Addr} {o : HO}, H b = some o → o ≠ .ins C dx [] → b ≠ p := fun {b o} hb no e => no (by rw [e, hp] at hb; exact (Option.some.inj hb).symm)
  intro t
  induction t with
  | leaf z =>
    rintro v ⟨q, dq, l, h1, h2, h3⟩
    exact ⟨q, dq, l, h1, k _ _ (ne h2 fun z => nomatch z) h2, k _ _ (ne h3 fun z => nomatch z) h3⟩
  | node s a b iha ihb =>
    rintro v ⟨q, dq, x, y, l, ys, h1, h2, h3, h4, h5, h6⟩
    exact ⟨q, dq, x, y, l, ys, h1, k _ _ (ne h2 fun z => nomatch z) h2, iha h3, ihb h4, k _ _ (ne h5 fun z => nomatch z) h5, h6⟩
theorem lands_leaf (z : Str) : Lands (.leaf z) [z] := ⟨rfl, List.nodup_cons.mpr ⟨fun h => (nomatch h), List.nodup_nil⟩, fun y => Iff.rfl⟩
/-- what each region has -/
structure RegV (r : RC) (H : Hp) (t : Tr) (p dx : Addr) (fs : List (Str × V)) : Prop where
  at_ : H p = some (.ins (r.at t) dx fs)
  dp : fs.lookup (Str.ofString "depth") = some (.int (t.depth : Nat))
  ld : ∃ l ys, fs.lookup (Str.ofString "lands") = some (.ref l) ∧ H l = some (.tup (ys.map V.str)) ∧ Lands t ys
  cov : fs.lookup (Str.ofString "covers") = none
  ovr : fs.lookup (Str.ofString "is_over") = none
theorem RegAt.see {r : RC} {H : Hp} : ∀ {t : Tr} {v : V}, RegAt r H t v → ∃ p dx fs, v = .ref p ∧ RegV r H t p dx fs
  | .leaf z, _, ⟨p, dx, l, h1, h2, h3⟩ => ⟨p, dx, _, h1, h2, rfl, ⟨l, [z], rfl, h3, lands_leaf z⟩, rfl, rfl⟩
  | .node _ _ _, _, ⟨p, dx, x, y, l, ys, h1, h2, h3, h4, h5, h6⟩ => ⟨p, dx, _, h1, h2, rfl, ⟨l, ys, rfl, h5, h6⟩, rfl, rfl⟩
end BW
namespace K04
open PySem PySem.Spec PyProof.Rows L2 BW
abbrev cLand (j : Nat) : Stmt := inClass (topS 18) j
abbrev cSum (j : Nat) : Stmt := inClass (topS 20) j
abbrev cCom (j : Nat) : Stmt := inClass (topS 21) j
abbrev cRes (j : Nat) : Stmt := inClass (topS 22) j
def IsRg (r : RC) (C : Addr) : Prop := C = r.L ∨ C = r.S ∨ C = r.C ∨ C = r.R
theorem isRg_at (r : RC) : ∀ t : Tr, IsRg r (r.at t)
  | .leaf _ => .inl rfl
  | .node .plus _ _ => .inr (.inl rfl)
  | .node .star _ _ => .inr (.inr (.inl rfl))
  | .node .minus _ _ => .inr (.inr (.inr rfl))
theorem inV_names (z : Str) : ∀ l : List Str, inV (.str z) (l.map V.str) = decide (z ∈ l) := fun l => by
  induction l with
  | nil => rfl
  | cons y l ih =>
    have h : inV (.str z) ((y :: l).map V.str) = (eqV (.str y) (.str z) || inV (.str z) (l.map V.str)) := rfl
    rw [h, ih]
    have h2 : eqV (.str y) (.str z) = (y == z) := rfl
    rw [h2]
    by_cases e : y = z
    · subst e
      simp
    · have e' : ¬ z = y := fun q => e q.symm
      simp [e, e']
def attrs5 : List Str := ["name", "one", "other", "lands", "depth"]
def kinds7 : List String := ["NoneType", "bool", "int", "str", "list", "tuple", "dict"]
/-- the four classes in the text -/
structure RgK (K : PySem.W.Frag) (r : RC) : Prop where
  cl : ∀ C, IsRg r C → Cls K C
  na : ∀ C, IsRg r C → ∀ f ∈ attrs5, NoAttr K C f
  ca : ∀ C, IsRg r C → PySem.W.findIn K (.ref C) "__class__" = some (some (.builtin "object.__class__"))
  hn : PySem.W.specialIn K (.builtin "object.__class__") "__get__" = some (some (.builtin "getset_descriptor.__get__"))
  tk : PySem.W.takesIn K (.builtin "object.__class__") = some true
  mo : ∀ C, IsRg r C → PySem.W.mroIn K C (.type "object") = some true
  kit : ∀ C D, IsRg r C → IsRg r D → PySem.W.kitOne K (.ref C) (.ref D) = some (decide (C = D))
  kitT : ∀ U ∈ kinds7, ∀ D, IsRg r D → PySem.W.kitOne K (.type U) (.ref D) = some false
  kitS : ∀ C, IsRg r C → PySem.W.kitOne K (.ref C) (.type "str") = some false
  nf : ∀ C D, IsRg r C → IsRg r D → PySem.W.notFirst K C (.ref D) = true
  nfS : ∀ C, IsRg r C → PySem.W.notFirst K C (.type "str") = true
  ne : r.L ≠ r.S ∧ r.L ≠ r.C ∧ r.L ≠ r.R ∧ r.S ≠ r.C ∧ r.S ≠ r.R ∧ r.C ≠ r.R
theorem RgK.leaf {K : PySem.W.Frag} {r : RC} (T : RgK K r) : ∀ {t : Tr}, r.at t = r.L → ∃ z, t = .leaf z
  | .leaf z, _ => ⟨z, rfl⟩
  | .node .plus _ _, h => absurd h.symm T.ne.1
  | .node .star _ _, h => absurd h.symm T.ne.2.1
  | .node .minus _ _, h => absurd h.symm T.ne.2.2.1
theorem RgK.of_inj {K : PySem.W.Frag} {r : RC} (T : RgK K r) {s u : Sg} (h : r.of s = r.of u) : s = u := by
  obtain ⟨_, _, _, h4, h5, h6⟩ := T.ne
  cases s <;> cases u <;> first | rfl | exact absurd h h4 | exact absurd h h5 | exact absurd h h6 | exact absurd h.symm h4 | exact absurd h.symm h5 | exact absurd h.symm h6
theorem RgK.node {K : PySem.W.Frag} {r : RC} (T : RgK K r) {s : Sg} : ∀ {t : Tr}, r.at t = r.of s → ∃ a b, t = .node s a b
  | .leaf _, h => by
    obtain ⟨h1, h2, h3, _⟩ := T.ne
    cases s <;> first | exact absurd h h1 | exact absurd h h2 | exact absurd h h3
  | .node u a b, h => by
    have e : u = s := T.of_inj h
    subst e
    exact ⟨a, b, rfl⟩
theorem ev_fld {K : PySem.W.Frag} {ta : TE} {σ : L2.St} {H : Hp} {a C dx : Addr} {fs : List (Str × V)} {f : Str} {v : V} (ha : Evl.Ev ta σ H (.ref a)) (h : H a = some (.ins C dx fs)) (c : Cls K C) (n : NoAttr K C f) (l : fs.lookup f = some v) : Evl.Ev (tFld K ta f) σ H v :=
  fun H1 e Q q => ha H1 e _ fun H2 e2 => ⟨a, C, dx, fs, v, rfl, e2 _ _ (e _ _ h), c, n, l, q H2 e2⟩
theorem rv_inT {K : PySem.W.Frag} {H : Hp} {c : Addr} {z : Str} {cs : List Str} (h : SqT K H c (cs.map V.str)) : Evl.RV (rIn K false) (.str z) (.ref c) H (.bl (decide (z ∈ cs))) := fun H1 e Q q =>
  ⟨c, _, rfl, .inr (Evl.ex_t e h), rfl, by rw [List.all_map]; exact List.all_eq_true.mpr fun _ _ => rfl, by
    rw [if_neg Bool.false_ne_true, inV_names]
    exact q H1 (Evl.Ex.refl H1)⟩
section
variable {P : Program} {w : World} {K : PySem.W.Frag} {mg : Str → Option Value} {base : Heap} {r : RC}
def spCov (K : PySem.W.Frag) (r : RC) (d : Nat) (C : Addr) : Sp := fun vs H Q _ => ∃ (x : V) (c : Addr) (t : Tr) (cs : List Str), vs = [x, .ref c] ∧ RegAt r H t x ∧ r.at t = C ∧ t.depth ≤ d ∧ SqT K H c (cs.map V.str) ∧ cs.length ≤ 20 ∧ Evl.RetV (.bl (t.over cs)) H Q
theorem scCovL : FnScope ["self", "cell"] ["self", "cell"] (defScope (cLand 1)) := ⟨rfl, rfl, rfl, by decide +kernel, rfl, by decide +kernel, by decide +kernel⟩
theorem ok_covL {f : Addr} {fd : FuncData} {k d : Nat} (T : RgK K r) (F : Fun K "covers" "Land.covers" (cLand 1) f fd) : FnOk P w K mg base CX0 (k + 1) f fd ["self", "cell"] (spCov K r d r.L) := by
  refine F.ok scCovL (fun vs H Q E h => ?_) (fun cdv A outer s H vs Q E hr h => ?_)
  · obtain ⟨x, c, t, cs, rfl, _⟩ := h
    rfl
  · obtain ⟨x, c, t, cs, rfl, hR, hC, hd, hc, hl, q⟩ := h
    refine ⟨_, pss_one (ps_ret (pe_cmpR op_in_seq (pe_fld (pv 0) rfl) (pv 1) (by rfl))), ?_⟩
    obtain ⟨z, rfl⟩ := T.leaf hC
    obtain ⟨p, dx, l, rfl, hp, _⟩ := hR
    exact Evl.s_ret (Evl.ev_op (ev_fld (Evl.ev_var rfl) hp (T.cl _ (.inl rfl)) (T.na _ (.inl rfl) _ (by decide)) rfl) (Evl.ev_var rfl) (rv_inT hc)) fun H1 e => q.go e
def RCov (K : PySem.W.Frag) (r : RC) (d : Nat) : Addr → Sp → Prop := fun C sp => IsRg r C ∧ sp = spCov K r d C
/-- covers of all four classes, at a level, for trees of a depth -/
def CovAt (P : Program) (w : World) (K : PySem.W.Frag) (mg : Str → Option Value) (base : Heap) (r : RC) (k d : Nat) : Prop := ∀ C sp, RCov K r d C sp → Md P w K mg base CX0 k "covers" C sp
theorem ev_md {R : Addr → Sp → Prop} {m : Str} {E : XK} {ta : TE} {tr : TA} {σ : L2.St} {H : Hp} {a C dx : Addr} {fs : List (Str × V)} {sp : Sp} {v : V} {vs : List V} (ha : Evl.Ev ta σ H (.ref a)) (hh : H a = some (.ins C dx fs)) (l : fs.lookup m = none) (hR : R C sp) (hv : Evl.EvA tr σ H vs) (hs : Evl.SpV sp (.ref a :: vs) H v) :
    Evl.Ev (tMethD R m E ta tr) σ H v := fun H1 e Q q => ha H1 e _ fun H2 e2 => ⟨a, C, dx, fs, sp, rfl, e2 _ _ (e _ _ hh), l, hR, hv H2 (e.trans e2) _ fun H3 e3 => hs H3 ((e.trans e2).trans e3) _ (fun H4 e4 => q H4 ((e2.trans e3).trans e4)) _⟩
theorem ev_cov {d : Nat} {ta tb : TE} {σ : L2.St} {H : Hp} {x : V} {c : Addr} {t : Tr} {cs : List Str} (ha : Evl.Ev ta σ H x) (hR : RegAt r H t x) (hd : t.depth ≤ d) (hb : Evl.Ev tb σ H (.ref c)) (hc : SqT K H c (cs.map V.str)) (hl : cs.length ≤ 20) :
    Evl.Ev (tMethD (RCov K r d) "covers" E0 ta (tCons tb tNil)) σ H (.bl (t.over cs)) := by
  obtain ⟨p, dx, fs, rfl, S⟩ := hR.see
  exact ev_md ha S.at_ S.cov ⟨isRg_at r t, rfl⟩ (Evl.ea_cons hb Evl.ea_nil) fun H1 e Q q _ => ⟨.ref p, c, t, cs, rfl, hR.mono e, rfl, hd, Evl.ex_t e hc, hl, q⟩
theorem scCovS : FnScope ["self", "cell"] ["self", "cell"] (defScope (cSum 0)) := ⟨rfl, rfl, rfl, by decide +kernel, rfl, by decide +kernel, by decide +kernel⟩
theorem scCovC : FnScope ["self", "cell"] ["self", "cell"] (defScope (cCom 0)) := ⟨rfl, rfl, rfl, by decide +kernel, rfl, by decide +kernel, by decide +kernel⟩
theorem scCovR : FnScope ["self", "cell"] ["self", "cell"] (defScope (cRes 0)) := ⟨rfl, rfl, rfl, by decide +kernel, rfl, by decide +kernel, by decide +kernel⟩
/-- a node: its parts, read off -/
structure Parts (K : PySem.W.Frag) (r : RC) (H : Hp) (s : Sg) (a b : Tr) (p : Addr) (x y : V) : Prop where
  one : ∀ {σ : L2.St} {i : Nat}, σ[i]? = some (some (V.ref p)) → Evl.Ev (tFld K (tVar i) "one") σ H x
  other : ∀ {σ : L2.St} {i : Nat}, σ[i]? = some (some (V.ref p)) → Evl.Ev (tFld K (tVar i) "other") σ H y
  ra : RegAt r H a x
  rb : RegAt r H b y
theorem RgK.parts (T : RgK K r) {s : Sg} {a b : Tr} {H : Hp} {v : V} (h : RegAt r H (.node s a b) v) : ∃ p x y, v = .ref p ∧ Parts K r H s a b p x y := by
  obtain ⟨p, dx, x, y, l, ys, rfl, hp, ha, hb, _⟩ := h
  have c := isRg_at r (.node s a b)
  exact ⟨p, x, y, rfl, fun hs => ev_fld (Evl.ev_var hs) hp (T.cl _ c) (T.na _ c _ (by decide)) rfl, fun hs => ev_fld (Evl.ev_var hs) hp (T.cl _ c) (T.na _ c _ (by decide)) rfl, ha, hb⟩
theorem ok_covS {f : Addr} {fd : FuncData} {k d : Nat} (T : RgK K r) (D : CovAt P w K mg base r (k + 1) d) (F : Fun K "covers" "Sum.covers" (cSum 0) f fd) : FnOk P w K mg base CX0 (k + 2) f fd ["self", "cell"] (spCov K r (d + 1) r.S) := by
  refine F.ok scCovS (fun vs H Q E h => ?_) (fun cdv A outer s H vs Q E hr h => ?_)
  · obtain ⟨x, c, t, cs, rfl, _⟩ := h
    rfl
  · obtain ⟨x, c, t, cs, rfl, hR, hC, hd, hc, hl, q⟩ := h
    refine ⟨_, pss_one (ps_ret (pe_or (pe_methD (pe_fld (pv 0) rfl) D hr pass0 (pa_cons (pv 1) pa_nil)) (pe_one (pe_methD (pe_fld (pv 0) rfl) D hr pass0 (pa_cons (pv 1) pa_nil))))), ?_⟩
    obtain ⟨a, b, rfl⟩ := T.node (s := .plus) hC
    obtain ⟨p, x, y, rfl, U⟩ := T.parts hR
    have hd' : 1 + max a.depth b.depth ≤ d + 1 := hd
    exact Evl.s_ret (Evl.ev_orV (ev_cov (U.one rfl) U.ra (by omega) (Evl.ev_var rfl) hc hl) fun _ => ev_cov (U.other rfl) U.rb (by omega) (Evl.ev_var rfl) hc hl) fun H1 e => q.go e
theorem ok_covC {f : Addr} {fd : FuncData} {k d : Nat} (T : RgK K r) (D : CovAt P w K mg base r (k + 1) d) (F : Fun K "covers" "Common.covers" (cCom 0) f fd) : FnOk P w K mg base CX0 (k + 2) f fd ["self", "cell"] (spCov K r (d + 1) r.C) := by
  refine F.ok scCovC (fun vs H Q E h => ?_) (fun cdv A outer s H vs Q E hr h => ?_)
  · obtain ⟨x, c, t, cs, rfl, _⟩ := h
    rfl
  · obtain ⟨x, c, t, cs, rfl, hR, hC, hd, hc, hl, q⟩ := h
    refine ⟨_, pss_one (ps_ret (pe_and (pe_methD (pe_fld (pv 0) rfl) D hr pass0 (pa_cons (pv 1) pa_nil)) (pe_one (pe_methD (pe_fld (pv 0) rfl) D hr pass0 (pa_cons (pv 1) pa_nil))))), ?_⟩
    obtain ⟨a, b, rfl⟩ := T.node (s := .star) hC
    obtain ⟨p, x, y, rfl, U⟩ := T.parts hR
    have hd' : 1 + max a.depth b.depth ≤ d + 1 := hd
    exact Evl.s_ret (Evl.ev_andV (ev_cov (U.one rfl) U.ra (by omega) (Evl.ev_var rfl) hc hl) fun _ => ev_cov (U.other rfl) U.rb (by omega) (Evl.ev_var rfl) hc hl) fun H1 e => q.go e
theorem ok_covR {f : Addr} {fd : FuncData} {k d : Nat} (T : RgK K r) (D : CovAt P w K mg base r (k + 1) d) (F : Fun K "covers" "Rest.covers" (cRes 0) f fd) : FnOk P w K mg base CX0 (k + 2) f fd ["self", "cell"] (spCov K r (d + 1) r.R) := by
  refine F.ok scCovR (fun vs H Q E h => ?_) (fun cdv A outer s H vs Q E hr h => ?_)
  · obtain ⟨x, c, t, cs, rfl, _⟩ := h
    rfl
  · obtain ⟨x, c, t, cs, rfl, hR, hC, hd, hc, hl, q⟩ := h
    refine ⟨_, pss_one (ps_ret (pe_and (pe_methD (pe_fld (pv 0) rfl) D hr pass0 (pa_cons (pv 1) pa_nil)) (pe_one (pe_not (pe_methD (pe_fld (pv 0) rfl) D hr pass0 (pa_cons (pv 1) pa_nil)))))), ?_⟩
    obtain ⟨a, b, rfl⟩ := T.node (s := .minus) hC
    obtain ⟨p, x, y, rfl, U⟩ := T.parts hR
    have hd' : 1 + max a.depth b.depth ≤ d + 1 := hd
    exact Evl.s_ret (Evl.ev_andV (ev_cov (U.one rfl) U.ra (by omega) (Evl.ev_var rfl) hc hl) fun _ => Evl.ev_notV (ev_cov (U.other rfl) U.rb (by omega) (Evl.ev_var rfl) hc hl)) fun H1 e => q.go e
end
end K04
namespace K04
open PySem PySem.Spec PyProof.Rows L2 BW
theorem knd7 {H : Hp} {v : V} {U : String} (k : Knd H v U) : U ∈ kinds7 := by
  cases k <;> decide
section
variable {P : Program} {w : World} {K : PySem.W.Frag} {mg : Str → Option Value} {base : Heap} {r : RC}
/-- a region, or what is none -/
inductive RVal (r : RC) (H : Hp) : V → Option Tr → Prop where
  | reg {t : Tr} {v : V} (h : RegAt r H t v) : RVal r H v (some t)
  | odd {v : V} {U : String} (k : Knd H v U) : RVal r H v none
theorem RVal.mono {H H' : Hp} {v : V} {o : Option Tr} (e : Evl.Ex H H') (h : RVal r H v o) : RVal r H' v o := by
  cases h with
  | reg h => exact .reg (h.mono e)
  | odd k => exact .odd (k.mono e)
def isAt (r : RC) (D : Addr) : Option Tr → Bool
  | some t => decide (r.at t = D)
  | none => false
theorem RgK.tyx (T : RgK K r) {H : Hp} {t : Tr} {v : V} (h : RegAt r H t v) : TyX K H v (.ref (r.at t)) := by
  obtain ⟨p, dx, fs, rfl, S⟩ := h.see
  have c := isRg_at r t
  exact .base (.ins S.at_ (T.cl _ c) (T.ca _ c) T.hn T.tk (T.mo _ c))
theorem RgK.kitV (T : RgK K r) {H : Hp} {v : V} {o : Option Tr} (h : RVal r H v o) : ∃ τ, TyX K H v τ ∧ ∀ D, IsRg r D → PySem.W.kitOne K τ (.ref D) = some (isAt r D o) := by
  cases h with
  | reg h => exact ⟨_, T.tyx h, fun D hD => T.kit _ D (isRg_at r _) hD⟩
  | odd k => exact ⟨_, k.tyx, fun D hD => T.kitT _ (knd7 k) D hD⟩
theorem RgK.ev_is (T : RgK K r) {ta : TE} {σ : L2.St} {H : Hp} {v : V} {o : Option Tr} {D : Addr} (ha : Evl.Ev ta σ H v) (h : RVal r H v o) (hD : IsRg r D) : Evl.Ev (tCB (rIsi K) (tCons ta (tCons (tC (.ref D)) tNil))) σ H (.bl (isAt r D o)) :=
  Evl.ev_cb (Evl.ea_cons ha (Evl.ea_cons Evl.ev_c Evl.ea_nil)) fun H1 e _ q => by
    obtain ⟨τ, ty, k⟩ := T.kitV (h.mono e)
    exact ⟨v, .ref D, τ, .ref D, _, rfl, .own D, ty, k D hD, q H1 (Evl.Ex.refl H1)⟩
def eqO (t : Tr) : Option Tr → Bool
  | some u => decide (t = u)
  | none => false
def spEqO (r : RC) (d : Nat) (C : Addr) : Sp := fun vs H Q _ => ∃ (x y : V) (t : Tr) (o : Option Tr), vs = [x, y] ∧ RegAt r H t x ∧ r.at t = C ∧ t.depth ≤ d ∧ RVal r H y o ∧ Evl.RetV (.bl (eqO t o)) H Q
def REq (r : RC) (d : Nat) : Addr → Sp → Prop := fun C sp => IsRg r C ∧ sp = spEqO r d C
def EqAt (P : Program) (w : World) (K : PySem.W.Frag) (mg : Str → Option Value) (base : Heap) (r : RC) (k d : Nat) : Prop := ∀ C sp, REq r d C sp → Md P w K mg base CX0 k "__eq__" C sp
theorem RgK.ev_eq (T : RgK K r) {d : Nat} {ta tb : TE} {σ : L2.St} {H : Hp} {x y : V} {t u : Tr} (ha : Evl.Ev ta σ H x) (hb : Evl.Ev tb σ H y) (hx : RegAt r H t x) (hy : RegAt r H u y) (hd : t.depth ≤ d) : Evl.Ev (tOp (rEqO K (REq r d) E0) ta tb) σ H (.bl (decide (t = u))) := by
  obtain ⟨p, dx, fs, rfl, S⟩ := hx.see
  obtain ⟨p', dy, gs, rfl, S'⟩ := hy.see
  exact Evl.ev_op ha hb fun H1 e Q q => ⟨p, _, dx, fs, _, _, rfl, e _ _ S.at_, .inr ⟨p', _, dy, gs, rfl, e _ _ S'.at_, rfl⟩, T.nf _ _ (isRg_at r t) (isRg_at r u), ⟨isRg_at r t, rfl⟩, .ref p, .ref p', t, some u, rfl, hx.mono e, rfl, hd, .reg (hy.mono e), q⟩
theorem RgK.ev_eqS (T : RgK K r) {d : Nat} {ta tb : TE} {σ : L2.St} {H : Hp} {x : V} {t : Tr} {z : Str} (ha : Evl.Ev ta σ H x) (hb : Evl.Ev tb σ H (.str z)) (hx : RegAt r H t x) (hz : z.length ≤ 1000) (hd : t.depth ≤ d) : Evl.Ev (tOp (rEqO K (REq r d) E0) ta tb) σ H (.bl false) := by
  obtain ⟨p, dx, fs, rfl, S⟩ := hx.see
  exact Evl.ev_op ha hb fun H1 e Q q => ⟨p, _, dx, fs, _, _, rfl, e _ _ S.at_, .inl ⟨z, rfl, rfl⟩, T.nfS _ (isRg_at r t), ⟨isRg_at r t, rfl⟩, .ref p, .str z, t, none, rfl, hx.mono e, rfl, hd, .odd (.str hz), q⟩
theorem scEqL : FnScope ["self", "other"] ["self", "other"] (defScope (cLand 4)) := ⟨rfl, rfl, rfl, by decide +kernel, rfl, by decide +kernel, by decide +kernel⟩
theorem scEqS : FnScope ["self", "other"] ["self", "other"] (defScope (cSum 3)) := ⟨rfl, rfl, rfl, by decide +kernel, rfl, by decide +kernel, by decide +kernel⟩
theorem scEqC : FnScope ["self", "other"] ["self", "other"] (defScope (cCom 3)) := ⟨rfl, rfl, rfl, by decide +kernel, rfl, by decide +kernel, by decide +kernel⟩
theorem scEqR : FnScope ["self", "other"] ["self", "other"] (defScope (cRes 3)) := ⟨rfl, rfl, rfl, by decide +kernel, rfl, by decide +kernel, by decide +kernel⟩
/-- the classes by their names -/
structure RgG (mg : Str → Option Value) (r : RC) : Prop where
  gL : mg "Land" = some (.ref r.L)
  gS : mg "Sum" = some (.ref r.S)
  gC : mg "Common" = some (.ref r.C)
  gR : mg "Rest" = some (.ref r.R)
theorem ok_eqL {f : Addr} {fd : FuncData} {k d : Nat} (X : Tx mg) (T : RgK K r) (G : RgG mg r) (F : Fun K "__eq__" "Land.__eq__" (cLand 4) f fd) : FnOk P w K mg base CX0 (k + 1) f fd ["self", "other"] (spEqO r d r.L) := by
  refine F.ok scEqL (fun vs H Q E h => ?_) (fun cdv A outer s H vs Q E hr h => ?_)
  · obtain ⟨x, y, t, o, rfl, _⟩ := h
    rfl
  · obtain ⟨x, y, t, o, rfl, hR, hC, hd, hy, q⟩ := h
    refine ⟨_, pss_one (ps_ret (pe_and (pe_callB call_isi (by rfl) X.isi (by decide +kernel) (pa_cons (pv 1) (pa_cons (pe_glob (v := .ref r.L) (by rfl) G.gL rfl) pa_nil))) (pe_one (pe_cmpR op_eq (pe_fld (pv 0) rfl) (pe_fld (pv 1) rfl) (nomark _))))), ?_⟩
    obtain ⟨z, rfl⟩ := T.leaf hC
    obtain ⟨p, dx, l, rfl, hp, _⟩ := hR
    have fst := T.ev_is (ta := tVar 1) (σ := [some (V.ref p), some y]) (Evl.ev_var rfl) hy (.inl rfl : IsRg r r.L)
    have fld : ∀ {i : Nat} {b bx : Addr} {gs : List (Str × V)} {u : V}, [some (V.ref p), some y][i]? = some (some (V.ref b)) → H b = some (.ins r.L bx gs) → gs.lookup (Str.ofString "name") = some u → Evl.Ev (tFld K (tVar i) "name") [some (V.ref p), some y] H u := fun h1 h2 h3 => ev_fld (Evl.ev_var h1) h2 (T.cl _ (.inl rfl)) (T.na _ (.inl rfl) _ (by decide)) h3
    refine Evl.s_ret (v := .bl (eqO (.leaf z) o)) ?_ fun H1 e => q.go e
    cases hy with
    | odd k => exact Evl.ev_andV (a := false) (b := false) fst (fun z => nomatch z)
    | @reg u _ hu =>
      cases u with
      | leaf z' =>
        obtain ⟨p', dx', l', rfl, hp', _⟩ := hu
        have e1 : isAt r r.L (some (.leaf z')) = true := decide_eq_true rfl
        rw [e1] at fst
        refine Evl.ev_is (Evl.ev_andV (a := true) (b := decide (V.str z = V.str z')) fst fun _ => Evl.ev_op (fld rfl hp rfl) (fld rfl hp' rfl) (Evl.rv_eq rfl)) ?_
        by_cases e : z = z'
        · subst e
          simp [eqO]
        · simp [eqO, e]
      | node s a b =>
        have e1 : isAt r r.L (some (.node s a b)) = false := decide_eq_false fun h => by
          obtain ⟨_, h⟩ := T.leaf h
          cases h
        rw [e1] at fst
        exact Evl.ev_andV (a := false) (b := false) fst (fun z => nomatch z)
theorem RgK.eq_node (T : RgK K r) {d : Nat} {s : Sg} {a b : Tr} {H : Hp} {x y : V} {o : Option Tr} (hx : RegAt r H (.node s a b) x) (hy : RVal r H y o) (hd : (Tr.node s a b).depth ≤ d + 1) :
    Evl.Ev (tAndV (tCB (rIsi K) (tCons (tVar 1) (tCons (tC (.ref (r.of s))) tNil))) (tAndV (tOp (rEqO K (REq r d) E0) (tFld K (tVar 0) "one") (tFld K (tVar 1) "one")) (tOp (rEqO K (REq r d) E0) (tFld K (tVar 0) "other") (tFld K (tVar 1) "other")))) [some x, some y] H (.bl (eqO (.node s a b) o)) := by
  have isC : IsRg r (r.of s) := isRg_at r (.node s a b)
  have fst := T.ev_is (ta := tVar 1) (σ := [some x, some y]) (Evl.ev_var rfl) hy isC
  have hd' : 1 + max a.depth b.depth ≤ d + 1 := hd
  obtain ⟨p, u, v, rfl, U⟩ := T.parts hx
  cases hy with
  | odd k => exact Evl.ev_andV (a := false) (b := false) fst (fun z => nomatch z)
  | @reg c _ hc =>
    by_cases e : r.at c = r.of s
    · obtain ⟨a', b', rfl⟩ := T.node e
      obtain ⟨p', u', v', rfl, U'⟩ := T.parts hc
      have e1 : isAt r (r.of s) (some (.node s a' b')) = true := decide_eq_true rfl
      rw [e1] at fst
      refine Evl.ev_is (Evl.ev_andV (a := true) (b := decide (a = a') && decide (b = b')) fst fun _ => Evl.ev_andV (T.ev_eq (U.one rfl) (U'.one rfl) U.ra U'.ra (by omega)) fun _ => T.ev_eq (U.other rfl) (U'.other rfl) U.rb U'.rb (by omega)) ?_
      show V.bl (true && (decide (a = a') && decide (b = b'))) = V.bl (decide (Tr.node s a b = Tr.node s a' b'))
      by_cases h1 : a = a' <;> by_cases h2 : b = b' <;> simp [h1, h2]
    · have e1 : isAt r (r.of s) (some c) = false := decide_eq_false e
      have e2 : eqO (.node s a b) (some c) = false := decide_eq_false fun h => e (by rw [← h]; rfl)
      rw [e1] at fst
      rw [e2]
      exact Evl.ev_andV (a := false) (b := false) fst (fun z => nomatch z)
theorem ok_eqS {f : Addr} {fd : FuncData} {k d : Nat} (X : Tx mg) (T : RgK K r) (G : RgG mg r) (D : EqAt P w K mg base r (k + 1) d) (F : Fun K "__eq__" "Sum.__eq__" (cSum 3) f fd) : FnOk P w K mg base CX0 (k + 2) f fd ["self", "other"] (spEqO r (d + 1) r.S) := by
  refine F.ok scEqS (fun vs H Q E h => ?_) (fun cdv A outer s H vs Q E hr h => ?_)
  · obtain ⟨x, y, t, o, rfl, _⟩ := h
    rfl
  · obtain ⟨x, y, t, o, rfl, hR, hC, hd, hy, q⟩ := h
    refine ⟨_, pss_one (ps_ret (pe_and (pe_callB call_isi (by rfl) X.isi (by decide +kernel) (pa_cons (pv 1) (pa_cons (pe_glob (v := .ref r.S) (by rfl) G.gS rfl) pa_nil)))
      (pe_and (pe_cmpR (op_eqO D hr pass0) (pe_fld (pv 0) rfl) (pe_fld (pv 1) rfl) (nomark _)) (pe_one (pe_cmpR (op_eqO D hr pass0) (pe_fld (pv 0) rfl) (pe_fld (pv 1) rfl) (nomark _)))))), ?_⟩
    obtain ⟨a, b, rfl⟩ := T.node (s := .plus) hC
    exact Evl.s_ret (T.eq_node hR hy hd) fun H1 e => q.go e
theorem ok_eqC {f : Addr} {fd : FuncData} {k d : Nat} (X : Tx mg) (T : RgK K r) (G : RgG mg r) (D : EqAt P w K mg base r (k + 1) d) (F : Fun K "__eq__" "Common.__eq__" (cCom 3) f fd) : FnOk P w K mg base CX0 (k + 2) f fd ["self", "other"] (spEqO r (d + 1) r.C) := by
  refine F.ok scEqC (fun vs H Q E h => ?_) (fun cdv A outer s H vs Q E hr h => ?_)
  · obtain ⟨x, y, t, o, rfl, _⟩ := h
    rfl
  · obtain ⟨x, y, t, o, rfl, hR, hC, hd, hy, q⟩ := h
    refine ⟨_, pss_one (ps_ret (pe_and (pe_callB call_isi (by rfl) X.isi (by decide +kernel) (pa_cons (pv 1) (pa_cons (pe_glob (v := .ref r.C) (by rfl) G.gC rfl) pa_nil)))
      (pe_and (pe_cmpR (op_eqO D hr pass0) (pe_fld (pv 0) rfl) (pe_fld (pv 1) rfl) (nomark _)) (pe_one (pe_cmpR (op_eqO D hr pass0) (pe_fld (pv 0) rfl) (pe_fld (pv 1) rfl) (nomark _)))))), ?_⟩
    obtain ⟨a, b, rfl⟩ := T.node (s := .star) hC
    exact Evl.s_ret (T.eq_node hR hy hd) fun H1 e => q.go e
theorem ok_eqR {f : Addr} {fd : FuncData} {k d : Nat} (X : Tx mg) (T : RgK K r) (G : RgG mg r) (D : EqAt P w K mg base r (k + 1) d) (F : Fun K "__eq__" "Rest.__eq__" (cRes 3) f fd) : FnOk P w K mg base CX0 (k + 2) f fd ["self", "other"] (spEqO r (d + 1) r.R) := by
  refine F.ok scEqR (fun vs H Q E h => ?_) (fun cdv A outer s H vs Q E hr h => ?_)
  · obtain ⟨x, y, t, o, rfl, _⟩ := h
    rfl
  · obtain ⟨x, y, t, o, rfl, hR, hC, hd, hy, q⟩ := h
    refine ⟨_, pss_one (ps_ret (pe_and (pe_callB call_isi (by rfl) X.isi (by decide +kernel) (pa_cons (pv 1) (pa_cons (pe_glob (v := .ref r.R) (by rfl) G.gR rfl) pa_nil)))
      (pe_and (pe_cmpR (op_eqO D hr pass0) (pe_fld (pv 0) rfl) (pe_fld (pv 1) rfl) (nomark _)) (pe_one (pe_cmpR (op_eqO D hr pass0) (pe_fld (pv 0) rfl) (pe_fld (pv 1) rfl) (nomark _)))))), ?_⟩
    obtain ⟨a, b, rfl⟩ := T.node (s := .minus) hC
    exact Evl.s_ret (T.eq_node hR hy hd) fun H1 e => q.go e
end
end K04
/-! Texts put together. -/
namespace BW
open PySem PySem.Spec PyProof.Rows L2
theorem str_app (x y : Str) : (x ++ y).cps = x.cps ++ y.cps := rfl
theorem str_ext {x y : Str} (h : x.cps = y.cps) : x = y := by
  cases x
  cases y
  cases h
  rfl
theorem str_assoc (x y z : Str) : x ++ y ++ z = x ++ (y ++ z) := str_ext (by rw [str_app, str_app, str_app, str_app, Array.append_assoc])
theorem str_len (x y : Str) : (x ++ y).length = x.length + y.length := Array.size_append
theorem str_nil (x : Str) : Str.empty ++ x = x := str_ext (by rw [str_app]; exact Array.empty_append ..)
theorem said_len {n : Nat} : ∀ {t : Tr}, t.All (fun z => z.length ≤ n) → t.said.length + 4 ≤ (n + 4) * 2 ^ t.depth
  | .leaf z, h => by
    have h' : z.length ≤ n := h
    show z.length + 4 ≤ (n + 4) * 2 ^ 0
    omega
  | .node s a b, h => by
    have h1 := said_len h.1
    have h2 := said_len h.2
    have e1 : s.str.length = 1 := by cases s <;> rfl
    have e2 : (Str.ofString " ").length = 1 := rfl
    have m1 : 2 ^ a.depth ≤ 2 ^ max a.depth b.depth := Nat.pow_le_pow_right (by omega) (Nat.le_max_left ..)
    have m2 : 2 ^ b.depth ≤ 2 ^ max a.depth b.depth := Nat.pow_le_pow_right (by omega) (Nat.le_max_right ..)
    have k1 := Nat.mul_le_mul_left (n + 4) m1
    have k2 := Nat.mul_le_mul_left (n + 4) m2
    show (s.str ++ Str.ofString " " ++ a.said ++ Str.ofString " " ++ b.said).length + 4 ≤ (n + 4) * 2 ^ (1 + max a.depth b.depth)
    rw [str_len, str_len, str_len, str_len, e1, e2, Nat.pow_add, Nat.pow_one, ← Nat.mul_assoc, Nat.mul_comm (n + 4) 2, Nat.mul_assoc]
    omega
theorem said_node (s : Sg) (a b : Tr) : (Tr.node s a b).said = s.str ++ " " ++ a.said ++ " " ++ b.said := rfl
end BW
namespace K04
open PySem PySem.Spec PyProof.Rows L2 BW
def short12 : Str → Prop := fun z => z.length ≤ 12
section
variable {P : Program} {w : World} {K : PySem.W.Frag} {mg : Str → Option Value} {base : Heap} {r : RC}
def spStr (r : RC) (d : Nat) (C : Addr) : Sp := fun vs H Q _ => ∃ (x : V) (t : Tr), vs = [x] ∧ RegAt r H t x ∧ r.at t = C ∧ t.depth ≤ d ∧ t.depth ≤ 2 ∧ t.All short12 ∧ Evl.RetV (.str t.said) H Q
def RStr (r : RC) (d : Nat) : Addr → Sp → Prop := fun C sp => IsRg r C ∧ sp = spStr r d C
def StrAt (P : Program) (w : World) (K : PySem.W.Frag) (mg : Str → Option Value) (base : Heap) (r : RC) (k d : Nat) : Prop := ∀ C sp, RStr r d C sp → Md P w K mg base CX0 k "__str__" C sp ∧ FmtC K C
theorem scStrL : FnScope ["self"] ["self"] (defScope (cLand 5)) := ⟨rfl, rfl, rfl, by decide +kernel, rfl, by decide +kernel, by decide +kernel⟩
theorem scStrS : FnScope ["self"] ["self"] (defScope (cSum 4)) := ⟨rfl, rfl, rfl, by decide +kernel, rfl, by decide +kernel, by decide +kernel⟩
theorem scStrC : FnScope ["self"] ["self"] (defScope (cCom 4)) := ⟨rfl, rfl, rfl, by decide +kernel, rfl, by decide +kernel, by decide +kernel⟩
theorem scStrR : FnScope ["self"] ["self"] (defScope (cRes 4)) := ⟨rfl, rfl, rfl, by decide +kernel, rfl, by decide +kernel, by decide +kernel⟩
theorem ok_strL {f : Addr} {fd : FuncData} {k d : Nat} (X : Tx mg) (T : RgK K r) (F : Fun K "__str__" "Land.__str__" (cLand 5) f fd) : FnOk P w K mg base CX0 (k + 1) f fd ["self"] (spStr r d r.L) := by
  refine F.ok scStrL (fun vs H Q E h => ?_) (fun cdv A outer s H vs Q E hr h => ?_)
  · obtain ⟨x, t, rfl, _⟩ := h
    rfl
  · obtain ⟨x, t, rfl, hR, hC, hd, hd2, ha, q⟩ := h
    refine ⟨_, pss_one (ps_ret (pe_callTy SkE.call_str_str (by rfl) X.str (by decide +kernel) (pa_cons (pe_fld (pv 0) rfl) pa_nil))), ?_⟩
    obtain ⟨z, rfl⟩ := T.leaf hC
    obtain ⟨p, dx, l, rfl, hp, _⟩ := hR
    exact Evl.s_ret (Evl.ev_cb (Evl.ea_cons (ev_fld (Evl.ev_var rfl) hp (T.cl _ (.inl rfl)) (T.na _ (.inl rfl) _ (by decide)) rfl) Evl.ea_nil) fun H1 e Q q => ⟨z, rfl, q H1 (Evl.Ex.refl H1)⟩) fun H1 e => q.go e
theorem ev_fmt {d : Nat} {ta : TE} {σ : L2.St} {H : Hp} {x : V} {t : Tr} (ha : Evl.Ev ta σ H x) (hR : RegAt r H t x) (hd : t.depth ≤ d) (hd2 : t.depth ≤ 2) (h12 : t.All short12) : Evl.Ev (fun σ H Q => ta σ H fun x H1 => rStrO (RStr r d) E0 x H1 Q) σ H (.str t.said) := fun H1 e Q q =>
  ha H1 e _ fun H2 e2 => by
    obtain ⟨p, dx, fs, rfl, S⟩ := (hR.mono (e.trans e2)).see
    exact ⟨p, _, dx, fs, _, rfl, S.at_, ⟨isRg_at r t, rfl⟩, .ref p, t, rfl, hR.mono (e.trans e2), rfl, hd, hd2, h12, fun H3 e3 => ⟨t.said, rfl, q H3 (e2.trans e3)⟩⟩
theorem ev_joined4 {ta tb : TE} {σ : L2.St} {H : Hp} {c1 c2 x y : Str} (ha : Evl.Ev ta σ H (.str x)) (hb : Evl.Ev tb σ H (.str y)) (hl : c1.length + x.length + c2.length + y.length ≤ 100000) :
    Evl.Ev (fun σ H Q => tJs [tC (.str c1), ta, tC (.str c2), tb] Str.empty σ H fun out H1 => Q (.str out) H1) σ H (.str (c1 ++ x ++ c2 ++ y)) := fun H1 e Q q => by
  refine ⟨c1, rfl, Evl.sz_of (by rw [str_nil]; omega), ha H1 e _ fun H2 e2 => ⟨x, rfl, Evl.sz_of (by rw [str_nil, str_len]; omega), ⟨c2, rfl, Evl.sz_of (by rw [str_nil, str_len, str_len]; omega), hb H2 (e.trans e2) _ fun H3 e3 => ⟨y, rfl, Evl.sz_of (by rw [str_nil, str_len, str_len, str_len]; omega), ?_⟩⟩⟩⟩
  rw [str_nil]
  exact q H3 (e2.trans e3)
theorem ok_strS {f : Addr} {fd : FuncData} {k d : Nat} (T : RgK K r) (D : StrAt P w K mg base r (k + 1) d) (F : Fun K "__str__" "Sum.__str__" (cSum 4) f fd) : FnOk P w K mg base CX0 (k + 3) f fd ["self"] (spStr r (d + 1) r.S) := by
  refine F.ok scStrS (fun vs H Q E h => ?_) (fun cdv A outer s H vs Q E hr h => ?_)
  · obtain ⟨x, t, rfl, _⟩ := h
    rfl
  · obtain ⟨x, t, rfl, hR, hC, hd, hd2, ha, q⟩ := h
    refine ⟨_, pss_one (ps_ret (pe_joined (.cons pe_str (.cons (pe_fmtO (pe_fld (pv 0) rfl) D hr pass0) (.cons pe_str (.cons (pe_fmtO (pe_fld (pv 0) rfl) D hr pass0) .nil)))))), ?_⟩
    obtain ⟨a, b, rfl⟩ := T.node (s := .plus) hC
    obtain ⟨p, x, y, rfl, U⟩ := T.parts hR
    have hd' : 1 + max a.depth b.depth ≤ d + 1 := hd
    have hd2' : 1 + max a.depth b.depth ≤ 2 := hd2
    have l1 := said_len ha.1
    have l2 := said_len ha.2
    have p1 : 2 ^ a.depth ≤ 2 ^ 1 := Nat.pow_le_pow_right (by omega) (by omega)
    have p2 : 2 ^ b.depth ≤ 2 ^ 1 := Nat.pow_le_pow_right (by omega) (by omega)
    refine Evl.s_ret (Evl.ev_is (ev_joined4 (c1 := "+ ") (c2 := " ") (ev_fmt (U.one rfl) U.ra (by omega) (by omega) ha.1) (ev_fmt (U.other rfl) U.rb (by omega) (by omega) ha.2) ?_) ?_) fun H1 e => q.go e
    · have e1 : (Str.ofString "+ ").length = 2 := rfl
      have e2 : (Str.ofString " ").length = 1 := rfl
      rw [e1, e2]
      omega
    · exact congrArg V.str rfl
theorem ok_strC {f : Addr} {fd : FuncData} {k d : Nat} (T : RgK K r) (D : StrAt P w K mg base r (k + 1) d) (F : Fun K "__str__" "Common.__str__" (cCom 4) f fd) : FnOk P w K mg base CX0 (k + 3) f fd ["self"] (spStr r (d + 1) r.C) := by
  refine F.ok scStrC (fun vs H Q E h => ?_) (fun cdv A outer s H vs Q E hr h => ?_)
  · obtain ⟨x, t, rfl, _⟩ := h
    rfl
  · obtain ⟨x, t, rfl, hR, hC, hd, hd2, ha, q⟩ := h
    refine ⟨_, pss_one (ps_ret (pe_joined (.cons pe_str (.cons (pe_fmtO (pe_fld (pv 0) rfl) D hr pass0) (.cons pe_str (.cons (pe_fmtO (pe_fld (pv 0) rfl) D hr pass0) .nil)))))), ?_⟩
    obtain ⟨a, b, rfl⟩ := T.node (s := .star) hC
    obtain ⟨p, x, y, rfl, U⟩ := T.parts hR
    have hd' : 1 + max a.depth b.depth ≤ d + 1 := hd
    have hd2' : 1 + max a.depth b.depth ≤ 2 := hd2
    have l1 := said_len ha.1
    have l2 := said_len ha.2
    have p1 : 2 ^ a.depth ≤ 2 ^ 1 := Nat.pow_le_pow_right (by omega) (by omega)
    have p2 : 2 ^ b.depth ≤ 2 ^ 1 := Nat.pow_le_pow_right (by omega) (by omega)
    refine Evl.s_ret (Evl.ev_is (ev_joined4 (c1 := "* ") (c2 := " ") (ev_fmt (U.one rfl) U.ra (by omega) (by omega) ha.1) (ev_fmt (U.other rfl) U.rb (by omega) (by omega) ha.2) ?_) ?_) fun H1 e => q.go e
    · have e1 : (Str.ofString "* ").length = 2 := rfl
      have e2 : (Str.ofString " ").length = 1 := rfl
      rw [e1, e2]
      omega
    · exact congrArg V.str rfl
theorem ok_strR {f : Addr} {fd : FuncData} {k d : Nat} (T : RgK K r) (D : StrAt P w K mg base r (k + 1) d) (F : Fun K "__str__" "Rest.__str__" (cRes 4) f fd) : FnOk P w K mg base CX0 (k + 3) f fd ["self"] (spStr r (d + 1) r.R) := by
  refine F.ok scStrR (fun vs H Q E h => ?_) (fun cdv A outer s H vs Q E hr h => ?_)
  · obtain ⟨x, t, rfl, _⟩ := h
    rfl
  · obtain ⟨x, t, rfl, hR, hC, hd, hd2, ha, q⟩ := h
    refine ⟨_, pss_one (ps_ret (pe_joined (.cons pe_str (.cons (pe_fmtO (pe_fld (pv 0) rfl) D hr pass0) (.cons pe_str (.cons (pe_fmtO (pe_fld (pv 0) rfl) D hr pass0) .nil)))))), ?_⟩
    obtain ⟨a, b, rfl⟩ := T.node (s := .minus) hC
    obtain ⟨p, x, y, rfl, U⟩ := T.parts hR
    have hd' : 1 + max a.depth b.depth ≤ d + 1 := hd
    have hd2' : 1 + max a.depth b.depth ≤ 2 := hd2
    have l1 := said_len ha.1
    have l2 := said_len ha.2
    have p1 : 2 ^ a.depth ≤ 2 ^ 1 := Nat.pow_le_pow_right (by omega) (by omega)
    have p2 : 2 ^ b.depth ≤ 2 ^ 1 := Nat.pow_le_pow_right (by omega) (by omega)
    refine Evl.s_ret (Evl.ev_is (ev_joined4 (c1 := "- ") (c2 := " ") (ev_fmt (U.one rfl) U.ra (by omega) (by omega) ha.1) (ev_fmt (U.other rfl) U.rb (by omega) (by omega) ha.2) ?_) ?_) fun H1 e => q.go e
    · have e1 : (Str.ofString "- ").length = 2 := rfl
      have e2 : (Str.ofString " ").length = 1 := rfl
      rw [e1, e2]
      omega
    · exact congrArg V.str rfl
end
end K04
namespace K04
open PySem PySem.Spec PyProof.Rows L2 BW
abbrev sIsReg : Stmt := topS 23
abbrev sReqReg : Stmt := topS 24
section
variable {P : Program} {w : World} {K : PySem.W.Frag} {mg : Str → Option Value} {base : Heap} {r : RC} {CB : Addr}
def spIsR (r : RC) : Sp := fun vs H Q _ => ∃ (v : V) (o : Option Tr), vs = [v] ∧ RVal r H v o ∧ Evl.RetV (.bl o.isSome) H Q
theorem scIsReg : FnScope ["value"] ["value"] (defScope sIsReg) := ⟨rfl, rfl, rfl, by decide +kernel, rfl, by decide +kernel, by decide +kernel⟩
theorem RgK.kit4 (T : RgK K r) {H : Hp} {v : V} {o : Option Tr} (h : RVal r H v o) : ∃ τ, TyX K H v τ ∧ PySem.W.kitAny K τ [.ref r.L, .ref r.S, .ref r.C, .ref r.R] = some o.isSome := by
  obtain ⟨τ, ty, k⟩ := T.kitV h
  refine ⟨τ, ty, ?_⟩
  have all4 : ∀ {b : Bool}, o.isSome = true → b = true → o.isSome = true := fun h _ => h
  have at_ : ∀ {D : Addr}, isAt r D o = true → o.isSome = true := fun {D} h => by
    cases o with
    | some t => rfl
    | none => cases h
  refine kitAny_cons (k r.L (.inl rfl)) (fun h1 => kitAny_cons (k r.S (.inr (.inl rfl))) (fun h2 => kitAny_cons (k r.C (.inr (.inr (.inl rfl)))) (fun h3 => kitAny_cons (k r.R (.inr (.inr (.inr rfl)))) (fun h4 => ?_) at_) at_) at_) at_
  cases o with
  | none => rfl
  | some t =>
    have n1 := of_decide_eq_false h1
    have n2 := of_decide_eq_false h2
    have n3 := of_decide_eq_false h3
    have n4 := of_decide_eq_false h4
    rcases isRg_at r t with e | e | e | e
    · exact absurd e n1
    · exact absurd e n2
    · exact absurd e n3
    · exact absurd e n4
theorem ok_isreg {f : Addr} {fd : FuncData} {k : Nat} (X : Tx mg) (T : RgK K r) (G : RgG mg r) (F : Fun K "is_region" "is_region" sIsReg f fd) : FnOk P w K mg base CX0 (k + 1) f fd ["value"] (spIsR r) := by
  refine F.ok scIsReg (fun vs H Q E h => ?_) (fun cdv A outer s H vs Q E hr h => ?_)
  · obtain ⟨v, o, rfl, _⟩ := h
    rfl
  · obtain ⟨v, o, rfl, hv, q⟩ := h
    refine ⟨_, pss_one (ps_ret (pe_callB call_isiT (by rfl) X.isi (by decide +kernel) (pa_cons (pv 0) (pa_cons (pe_tup (pa_cons (pe_glob (v := .ref r.L) (by rfl) G.gL rfl) (pa_cons (pe_glob (v := .ref r.S) (by rfl) G.gS rfl) (pa_cons (pe_glob (v := .ref r.C) (by rfl) G.gC rfl) (pa_cons (pe_glob (v := .ref r.R) (by rfl) G.gR rfl) pa_nil))))) pa_nil)))), ?_⟩
    refine ⟨v, rfl, (by show 4 ≤ sizeLine; decide), fun p np => ?_⟩
    have e := Evl.Ex.new (o := .tup [.ref r.L, .ref r.S, .ref r.C, .ref r.R]) np
    obtain ⟨τ, ty, k⟩ := T.kit4 (hv.mono e)
    exact ⟨v, p, [.ref r.L, .ref r.S, .ref r.C, .ref r.R], τ, [.ref r.L, .ref r.S, .ref r.C, .ref r.R], _, rfl, upd_same, .cons (.own _) (.cons (.own _) (.cons (.own _) (.cons (.own _) .nil))), ty, k, q.go e⟩
theorem scReqReg : FnScope ["value", "part"] ["value", "part"] (defScope sReqReg) := ⟨rfl, rfl, rfl, by decide +kernel, rfl, by decide +kernel, by decide +kernel⟩
/-- raised: the class at C, its one field v -/
def Raised (C : Addr) (f : Str) (v : V) (H : Hp) (E : XK) : Prop := ∀ d H', Evl.Ex H H' → H' d = some (.xd [(f, v)]) → E (.ref C) (some d) H'
theorem rd_mk1 {f : Str} {v : V} {E : XK} {ta : TA} {σ : L2.St} {H : Hp} (O : OexC K CB) (no : PySem.W.findIn K (.ref CB) f = some none) (ha : Evl.EvA ta σ H [v]) (hE : Raised CB f v H E) : tMkO CB (spI1 K f) [] ta σ H fun cls d H' => E cls d H' :=
  ha H (Evl.Ex.refl H) _ fun H1 e1 => by
    refine ⟨(by show 1 ≤ 1000; decide), fun a na => ⟨a, CB, v, rfl, O, no, upd_same, fun d' H' nd' ne k h1 h2 => ⟨rfl, d', [(f, v)], h1, h2, ?_, hE d' _ (fun b o hb => ?_) upd_same⟩⟩⟩
    · rw [upd_ne ne] at nd'
      exact nd'
    · have hb1 := e1 _ _ hb
      have nba : b ≠ a := ne_of_none hb1 na
      have nbd : b ≠ d' := fun z => by
        rw [z] at hb1
        rw [upd_ne ne, hb1] at nd'
        cases nd'
      rw [upd_ne nbd, del_ne nba]
      exact k b o nba (by rw [upd_ne nba]; exact hb1)
theorem Raised.ex {f : Str} {v : V} {E : XK} {H H1 : Hp} (h : Raised CB f v H E) (e : Evl.Ex H H1) : Raised CB f v H1 E := fun d H' e' => h d H' (e.trans e')
def spReqR (r : RC) (CB : Addr) : Sp := fun vs H Q E => ∃ (v : V) (z : Str) (o : Option Tr), vs = [v, .str z] ∧ RVal r H v o ∧ ((∃ t, o = some t ∧ Evl.RetV .non H Q) ∨ (o = none ∧ Raised CB "part" (.str z) H E))
theorem binds_of {fd : FuncData} {ps : List Str} {n : Nat} (b : KBn K fd ps n [] (fun us _ => us) (fun vs _ => vs)) (h : ps.length = n) : Binds K fd ps [] := fun s us X hl => by
  rw [List.append_nil] at hl ⊢
  exact b.to s us [] X (hl.trans h) rfl
theorem ok_reqreg {f fI : Addr} {fd fdI : FuncData} {k : Nat} (bad : E1 P w K mg base "BadRegion" "part" CB) (D : Df P w K mg base (k + 2) "is_region" ["value"] (spIsR r) fI fdI) (F : Fun K "require_region" "require_region" sReqReg f fd) :
    FnOk P w K mg base (L2.CX P w) (k + 3) f fd ["value", "part"] (spReqR r CB) := by
  refine F.okX scReqReg (fun vs H Q E h => ?_) (fun cdv A outer s H vs Q E hr h => ?_)
  · obtain ⟨v, z, o, rfl, _⟩ := h
    rfl
  · obtain ⟨v, z, o, rfl, hv, q⟩ := h
    obtain ⟨fE, fdE, iC, tI, FI, bI, _⟩ := bad.made
    refine ⟨_, pss_one (ps_if (pt_not (pt_val (pe_df D hr (pa_cons (pv 0) pa_nil)))) (pss_one (ps_raise rfl (takes_of rfl rfl rfl rfl) (pmk_oex bad.O iC tI FI (hr.mono (by omega)) (binds_of bI rfl) .nil pass0 rfl bad.g (pa_cons (pv 1) pa_nil)))) pss_nil), ?_⟩
    refine Evl.s_when (b := !o.isSome) (Evl.et_not (Evl.et_B (Evl.ev_call (Evl.ea_cons (Evl.ev_var rfl) Evl.ea_nil) fun H1 e Q q _ => ⟨v, o, rfl, hv.mono e, q⟩))) (fun hb H1 e1 => ?_) (fun hb H1 e1 => ?_)
    · rcases q with ⟨t, rfl, _⟩ | ⟨rfl, q⟩
      · cases hb
      · exact rd_mk1 bad.O bad.no (Evl.ea_cons (Evl.ev_var rfl) Evl.ea_nil) (q.ex e1)
    · rcases q with ⟨t, rfl, q⟩ | ⟨rfl, q⟩
      · exact q.go e1
      · cases hb
end
end K04
/-! What is split again where it was joined. -/
namespace BW
open PySem PySem.Spec PyProof.Rows L2
theorem cut_same {α : Type} {c : α} : ∀ {a b r s : List α}, c ∉ a → c ∉ b → a ++ c :: r = b ++ c :: s → a = b ∧ r = s
  | [], [], r, s, _, _, e => ⟨rfl, (List.cons.inj e).2⟩
  | [], y :: b, r, s, _, hb, e => absurd (List.cons.inj e).1 fun z => hb (z ▸ List.mem_cons_self)
  | x :: a, [], r, s, ha, _, e => absurd (List.cons.inj e).1 fun z => ha (z ▸ List.mem_cons_self)
  | x :: a, y :: b, r, s, ha, hb, e => by
    obtain ⟨e1, e2⟩ := List.cons.inj e
    obtain ⟨h1, h2⟩ := cut_same (fun z => ha (List.mem_cons_of_mem _ z)) (fun z => hb (List.mem_cons_of_mem _ z)) e2
    exact ⟨by rw [e1, h1], h2⟩
def blank : Str := " "
theorem join_list (x y : Str) (r : List Str) : (Str.join blank (x :: y :: r)).cps.toList = x.cps.toList ++ 32 :: (Str.join blank (y :: r)).cps.toList := by
  show (x ++ blank ++ Str.join blank (y :: r)).cps.toList = _
  rw [str_app, str_app, Array.toList_append, Array.toList_append, List.append_assoc]
  rfl
theorem join_inj : ∀ {xs ys : List Str}, xs ≠ [] → ys ≠ [] → (∀ x ∈ xs, 32 ∉ x.cps.toList) → (∀ y ∈ ys, 32 ∉ y.cps.toList) → (Str.join blank xs).cps.toList = (Str.join blank ys).cps.toList → xs = ys
  | [], _, h, _, _, _, _ => absurd rfl h
  | _ :: _, [], _, h, _, _, _ => absurd rfl h
  | [x], [y], _, _, _, _, e => by
    have e' : x.cps.toList = y.cps.toList := e
    rw [str_ext (Array.toList_inj.mp e')]
  | [x], y :: z :: r, _, _, hx, _, e => by
    have e' : x.cps.toList = (Str.join blank (y :: z :: r)).cps.toList := e
    rw [join_list] at e'
    exact absurd (by rw [e']; simp) (hx x List.mem_cons_self)
  | x :: z :: r, [y], _, _, _, hy, e => by
    have e' : (Str.join blank (x :: z :: r)).cps.toList = y.cps.toList := e
    rw [join_list] at e'
    exact absurd (by rw [← e']; simp) (hy y List.mem_cons_self)
  | x :: x' :: r, y :: y' :: s, _, _, hx, hy, e => by
    rw [join_list, join_list] at e
    obtain ⟨e1, e2⟩ := cut_same (hx x List.mem_cons_self) (hy y List.mem_cons_self) e
    have e3 : x' :: r = y' :: s := join_inj (List.cons_ne_nil _ _) (List.cons_ne_nil _ _) (fun z hz => hx z (List.mem_cons_of_mem _ hz)) (fun z hz => hy z (List.mem_cons_of_mem _ hz)) e2
    rw [str_ext (Array.toList_inj.mp e1), e3]
theorem split_join {xs : List Str} (h0 : xs ≠ []) (h : ∀ x ∈ xs, 32 ∉ x.cps.toList) : Txt.split (Txt.join blank xs) blank = xs := by
  have free := StrLaws.split_free (Txt.join blank xs) 32
  have back := StrLaws.join_split (Txt.join blank xs) blank
  have pos := split_pos (Txt.join blank xs) blank
  refine join_inj (fun e => ?_) h0 free h ?_
  · have pos' : 1 ≤ (Txt.split (Txt.join blank xs) blank).length := pos
    rw [e] at pos'
    exact absurd pos' (by decide)
  · rw [back]
    show (Builtin.Str.glued blank xs).cps.toList = _
    rw [StrLaws.glued_eq_join]
theorem split_nil : Txt.split (Txt.join blank []) blank = [Str.empty] := by decide +kernel
end BW
namespace K04
open PySem PySem.Spec PyProof.Rows L2 BW
abbrev sReqCell : Stmt := topS 12
abbrev sItems : Stmt := topS 13
abbrev sItemAt : Stmt := topS 14
abbrev sReqEnd : Stmt := topS 15
section
variable {P : Program} {w : World} {K : PySem.W.Frag} {mg : Str → Option Value} {base : Heap} {r : RC} {CB CT : Addr}
/-- raised: the class at C, its two fields -/
def Raised2 (C : Addr) (f g : Str) (x y : V) (H : Hp) (E : XK) : Prop := ∀ d H', Evl.Ex H H' → H' d = some (.xd [(g, y), (f, x)]) → E (.ref C) (some d) H'
theorem Raised2.ex {f g : Str} {x y : V} {E : XK} {H H1 : Hp} (h : Raised2 CB f g x y H E) (e : Evl.Ex H H1) : Raised2 CB f g x y H1 E := fun d H' e' => h d H' (e.trans e')
theorem rd_mk2 {f g : Str} {x y : V} {E : XK} {ta : TA} {σ : L2.St} {H : Hp} (O : OexC K CB) (no : PySem.W.findIn K (.ref CB) f = some none) (no1 : PySem.W.findIn K (.ref CB) g = some none) (ha : Evl.EvA ta σ H [x, y]) (hE : Raised2 CB f g x y H E) : tMkO CB (spI2 K f g) [] ta σ H fun cls d H' => E cls d H' :=
  ha H (Evl.Ex.refl H) _ fun H1 e1 => by
    refine ⟨(by show 2 ≤ 1000; decide), fun a na => ⟨a, CB, x, y, rfl, O, no, no1, upd_same, fun d' H' nd' ne k h1 h2 => ⟨rfl, d', [(g, y), (f, x)], h1, h2, ?_, hE d' _ (fun b o hb => ?_) upd_same⟩⟩⟩
    · rw [upd_ne ne] at nd'
      exact nd'
    · have hb1 := e1 _ _ hb
      have nba : b ≠ a := ne_of_none hb1 na
      have nbd : b ≠ d' := fun z => by
        rw [z] at hb1
        rw [upd_ne ne, hb1] at nd'
        cases nd'
      rw [upd_ne nbd, del_ne nba]
      exact k b o nba (by rw [upd_ne nba]; exact hb1)
def spItems (r : RC) (CT : Addr) : Sp := fun vs H Q E => ∃ (v : V), vs = [v] ∧ ((∃ z, v = .str z ∧ z.length ≤ 1000 ∧ ∀ p H', H p = none → Evl.Ex H H' → H' p = some (.lst ((Txt.split z blank).map V.str)) → Q (.ref p) H') ∨ (isS v = false ∧ (∃ o, RVal r H v o) ∧ Raised2 CT "line" "item" (.int 0) (.int 0) H E))
theorem scItems : FnScope ["text"] ["text"] (defScope sItems) := ⟨rfl, rfl, rfl, by decide +kernel, rfl, by decide +kernel, by decide +kernel⟩
theorem RgK.kitStr (T : RgK K r) {H : Hp} {v : V} {o : Option Tr} (h : RVal r H v o) (hs : isS v = false) : ∃ τ, TyX K H v τ ∧ PySem.W.kitOne K τ (.type "str") = some false := by
  cases h with
  | reg h => exact ⟨_, T.tyx h, T.kitS _ (isRg_at r _)⟩
  | odd k =>
    refine ⟨_, k.tyx, ?_⟩
    have e := kd_str k
    rw [hs] at e
    exact kit_ty e
theorem ok_items {f : Addr} {fd : FuncData} {k : Nat} (X : Tx mg) (T : RgK K r) (bad : E2 P w K mg base "BadText" "line" "item" CT) (F : Fun K "text_items" "text_items" sItems f fd) : FnOk P w K mg base (L2.CX P w) (k + 3) f fd ["text"] (spItems r CT) := by
  refine F.okX scItems (fun vs H Q E h => ?_) (fun cdv A outer s H vs Q E hr h => ?_)
  · obtain ⟨v, rfl, _⟩ := h
    rfl
  · obtain ⟨v, rfl, hv⟩ := h
    obtain ⟨fE, fdE, iC, tI, FI, bI, _⟩ := bad.made
    refine ⟨_, pss_cons (ps_if (pt_not (pt_val (pe_callB call_isi (by rfl) X.isi (by decide +kernel) (pa_cons (pv 0) (pa_cons (pe_bltn (v := .ty "str") (by rfl) X.str (by decide +kernel) rfl) pa_nil)))))
        (pss_one (ps_raise rfl (takes_of rfl rfl rfl rfl) (pmk_oex bad.O iC tI FI (hr.mono (by omega)) (binds_of bI rfl) .nil pass0 rfl bad.g (pa_cons pe_int (pa_cons pe_int pa_nil))))) pss_nil)
      (pss_one (ps_ret (pe_split (pv 0) pe_str))), ?_⟩
    rcases hv with ⟨z, rfl, hz, q⟩ | ⟨hs, ⟨o, ho⟩, q⟩
    · refine Evl.q_when (b := false) (Evl.et_is (Evl.et_not (Evl.et_B (ev_isi (Evl.ev_var rfl) (.str hz) (kd_str (H := H) (.str hz))))) rfl) (fun z => nomatch z) fun _ H1 e1 => ?_
      refine ⟨.str z, rfl, ⟨_, rfl⟩, z, blank, rfl, rfl, rfl, Evl.sz_of (by omega), fun p np => ?_⟩
      have e2 := Evl.Ex.new (o := .lst ((Txt.split z blank).map V.str)) np
      exact q p _ (Evl.fresh_back e1 np) (e1.trans e2) upd_same
    · obtain ⟨τ, ty, kt⟩ := T.kitStr ho hs
      refine Evl.q_when (b := true) (Evl.et_is (Evl.et_not (Evl.et_B (b := false) (Evl.ev_cb (Evl.ea_cons (Evl.ev_var rfl) (Evl.ea_cons Evl.ev_c Evl.ea_nil)) fun H1 e _ q => ?_))) rfl) (fun _ H1 e1 => ?_) (fun z => nomatch z)
      · obtain ⟨τ, ty, kt⟩ := T.kitStr (ho.mono e) hs
        exact ⟨v, .ty "str", τ, .type "str", false, rfl, .ty "str", ty, kt, q H1 (Evl.Ex.refl H1)⟩
      · exact rd_mk2 bad.O bad.no bad.no1 (Evl.ea_cons Evl.ev_c (Evl.ea_cons Evl.ev_c Evl.ea_nil)) (q.ex e1)
def spItemAt (CT : Addr) : Sp := fun vs H Q E => ∃ (p : Addr) (xs : List Str) (i : Nat), vs = [.ref p, .int (i : Int)] ∧ H p = some (.lst (xs.map V.str)) ∧ ((∃ z, xs[i]? = some z ∧ Evl.RetV (.str z) H Q) ∨ (xs.length ≤ i ∧ Raised2 CT "line" "item" (.int 0) (.int (i : Int)) H E))
theorem scItemAt : FnScope ["items", "at"] ["items", "at"] (defScope sItemAt) := ⟨rfl, rfl, rfl, by decide +kernel, rfl, by decide +kernel, by decide +kernel⟩
theorem ok_itemat {f : Addr} {fd : FuncData} {k : Nat} (X : Tx mg) (bad : E2 P w K mg base "BadText" "line" "item" CT) (F : Fun K "item_at" "item_at" sItemAt f fd) : FnOk P w K mg base (L2.CX P w) (k + 3) f fd ["items", "at"] (spItemAt CT) := by
  refine F.okX scItemAt (fun vs H Q E h => ?_) (fun cdv A outer s H vs Q E hr h => ?_)
  · obtain ⟨p, xs, i, rfl, _⟩ := h
    rfl
  · obtain ⟨p, xs, i, rfl, hp, q⟩ := h
    obtain ⟨fE, fdE, iC, tI, FI, bI, _⟩ := bad.made
    refine ⟨_, pss_cons (ps_if (pt_cmpR op_ge (pv 1) (pe_callB call_len_seq (by rfl) X.len PySem.boot_len (pa_cons (pv 0) pa_nil)) (nomark _))
        (pss_one (ps_raise rfl (takes_of rfl rfl rfl rfl) (pmk_oex bad.O iC tI FI (hr.mono (by omega)) (binds_of bI rfl) .nil pass0 rfl bad.g (pa_cons pe_int (pa_cons (pv 1) pa_nil))))) pss_nil)
      (pss_one (ps_ret (pe_ix ix_list (pv 0) (pv 1) (fun _ _ => rfl)))), ?_⟩
    refine ⟨.int (i : Int), rfl, .ref p, rfl, p, _, rfl, .inl (Evl.sq_of hp), (i : Int), _, rfl, rfl, _, rfl, ite2 (fun c => ?_) (fun c => ?_)⟩
    · have c' : ((xs.map V.str).length : Int) ≤ (i : Int) := of_decide_eq_true c
      rw [List.length_map] at c'
      rcases q with ⟨z, hz, _⟩ | ⟨_, q⟩
      · have := (List.getElem?_eq_some_iff.mp hz).1
        omega
      · exact rd_mk2 bad.O bad.no bad.no1 (Evl.ea_cons Evl.ev_c (Evl.ea_cons (Evl.ev_var rfl) Evl.ea_nil)) q
    · have c' : ¬ ((xs.map V.str).length : Int) ≤ (i : Int) := fun h => c (decide_eq_true h)
      rw [List.length_map] at c'
      rcases q with ⟨z, hz, q⟩ | ⟨le, _⟩
      · exact ⟨.ref p, rfl, .int (i : Int), rfl, p, _, (i : Int), .str z, rfl, rfl, Evl.sq_of hp, atI_nat (by rw [List.getElem?_map, hz]; rfl), q H (Evl.Ex.refl H)⟩
      · omega
def spReqEnd (CT : Addr) : Sp := fun vs H Q E => ∃ (p : Addr) (xs : List Str) (i : Nat), vs = [.ref p, .int (i : Int)] ∧ H p = some (.lst (xs.map V.str)) ∧ ((xs.length ≤ i ∧ Evl.RetV .non H Q) ∨ (i < xs.length ∧ Raised2 CT "line" "item" (.int 0) (.int (i : Int)) H E))
theorem scReqEnd : FnScope ["items", "at"] ["items", "at"] (defScope sReqEnd) := ⟨rfl, rfl, rfl, by decide +kernel, rfl, by decide +kernel, by decide +kernel⟩
theorem ok_reqend {f : Addr} {fd : FuncData} {k : Nat} (X : Tx mg) (bad : E2 P w K mg base "BadText" "line" "item" CT) (F : Fun K "require_end" "require_end" sReqEnd f fd) : FnOk P w K mg base (L2.CX P w) (k + 3) f fd ["items", "at"] (spReqEnd CT) := by
  refine F.okX scReqEnd (fun vs H Q E h => ?_) (fun cdv A outer s H vs Q E hr h => ?_)
  · obtain ⟨p, xs, i, rfl, _⟩ := h
    rfl
  · obtain ⟨p, xs, i, rfl, hp, q⟩ := h
    obtain ⟨fE, fdE, iC, tI, FI, bI, _⟩ := bad.made
    refine ⟨_, pss_one (ps_if (pt_cmpR op_lt (pv 1) (pe_callB call_len_seq (by rfl) X.len PySem.boot_len (pa_cons (pv 0) pa_nil)) (nomark _))
        (pss_one (ps_raise rfl (takes_of rfl rfl rfl rfl) (pmk_oex bad.O iC tI FI (hr.mono (by omega)) (binds_of bI rfl) .nil pass0 rfl bad.g (pa_cons pe_int (pa_cons (pv 1) pa_nil))))) pss_nil), ?_⟩
    refine ⟨.int (i : Int), rfl, .ref p, rfl, p, _, rfl, .inl (Evl.sq_of hp), (i : Int), _, rfl, rfl, _, rfl, ite2 (fun c => ?_) (fun c => ?_)⟩
    · have c' : (i : Int) < ((xs.map V.str).length : Int) := of_decide_eq_true c
      rw [List.length_map] at c'
      rcases q with ⟨le, _⟩ | ⟨_, q⟩
      · omega
      · exact rd_mk2 bad.O bad.no bad.no1 (Evl.ea_cons Evl.ev_c (Evl.ea_cons (Evl.ev_var rfl) Evl.ea_nil)) q
    · have c' : ¬ (i : Int) < ((xs.map V.str).length : Int) := fun h => c (decide_eq_true h)
      rw [List.length_map] at c'
      rcases q with ⟨_, q⟩ | ⟨lt, _⟩
      · exact q H (Evl.Ex.refl H)
      · omega
def spReqCell (CW : Addr) : Sp := fun vs H Q E => ∃ (v : V) (z : Str) (o : Option (List V)), vs = [v, .str z] ∧ Seen H v o ∧ ((cellO o = true ∧ ∀ xs c H', o = some xs → Evl.Ex H H' → H' c = some (.tup xs) → Q (.ref c) H') ∨ (cellO o = false ∧ Raised CW "part" (.str z) H E))
theorem scReqCell : FnScope ["value", "part"] ["value", "part"] (defScope sReqCell) := ⟨rfl, rfl, rfl, by decide +kernel, rfl, by decide +kernel, by decide +kernel⟩
theorem ok_reqcell {CW f fI : Addr} {fd fdI : FuncData} {k : Nat} (X : Tx mg) (bad : E1 P w K mg base "BadWorld" "part" CW) (D : Df P w K mg base (k + 2) "is_cell" ["value"] (spS cellO) fI fdI) (F : Fun K "require_cell" "require_cell" sReqCell f fd) :
    FnOk P w K mg base (L2.CX P w) (k + 3) f fd ["value", "part"] (spReqCell CW) := by
  refine F.okX scReqCell (fun vs H Q E h => ?_) (fun cdv A outer s H vs Q E hr h => ?_)
  · obtain ⟨v, z, o, rfl, _⟩ := h
    rfl
  · obtain ⟨v, z, o, rfl, sv, q⟩ := h
    obtain ⟨fE, fdE, iC, tI, FI, bI, _⟩ := bad.made
    refine ⟨_, pss_cons (ps_if (pt_not (pt_val (pe_df D hr (pa_cons (pv 0) pa_nil)))) (pss_one (ps_raise rfl (takes_of rfl rfl rfl rfl) (pmk_oex bad.O iC tI FI (hr.mono (by omega)) (binds_of bI rfl) .nil pass0 rfl bad.g (pa_cons (pv 1) pa_nil)))) pss_nil)
      (pss_one (ps_ret (pe_callTy call_tuple_of (by rfl) X.tuple (by decide +kernel) (pa_cons (pv 0) pa_nil)))), ?_⟩
    refine Evl.q_when (b := !cellO o) (Evl.et_not (Evl.et_B (Evl.ev_call (Evl.ea_cons (Evl.ev_var rfl) Evl.ea_nil) (sp_s sv)))) (fun hb H1 e1 => ?_) (fun hb H1 e1 => ?_)
    · rcases q with ⟨hc, _⟩ | ⟨_, q⟩
      · rw [hc] at hb
        cases hb
      · exact rd_mk1 bad.O bad.no (Evl.ea_cons (Evl.ev_var rfl) Evl.ea_nil) (q.ex e1)
    · rcases q with ⟨_, q⟩ | ⟨hc, _⟩
      · cases sv with
        | flat _ _ _ => cases hb
        | @lst a xs h hl hx =>
          refine ⟨.ref a, rfl, a, xs, rfl, .inl ⟨Evl.sq_of (e1 _ _ h), fun c nc => ?_⟩⟩
          exact q xs c _ rfl (e1.trans (Evl.Ex.new nc)) upd_same
        | @tup a xs h hl hx => exact ⟨.ref a, rfl, a, xs, rfl, .inr ⟨Evl.st_of (e1 _ _ h), q xs a H1 rfl e1 (e1 _ _ h)⟩⟩
      · rw [hc] at hb
        cases hb
end
end K04
/-! {e for x in xs for y in ys}: a set of texts and ints from two clauses without tests. -/
namespace BW
open PySem PySem.Spec PyProof.Rows L2
/-- one step of an iterator: the store is done (yes), or it is at its end (no); nothing raises -/
def Stp (M : Model) (A : Around) (env : Env) (tg : Expr) (it : Value) (yes no : Shared → Prop) (s : Shared) : Prop :=
  wpAny M A (pyNext it) (fun r s1 => match r with
    | none => no s1
    | some v => wpAny M A (letOwnedTupleGo tg it v) (fun _ s2 => wpAny M A (assign tg env v) (fun _ s3 => yes s3) (fun _ _ => False) s2) (fun _ _ => False) s1) (fun _ _ => False) s
abbrev scTwo (el t0 i0 t1 i1 : Expr) (sc : Scope) (ps : Pos) : Expr := .SetComp el [⟨t0, i0, [], 0⟩, ⟨t1, i1, [], 0⟩] sc ps
section
variable {P : Program} {w : World} {A : Around} {R : Result → Shared → Prop} {s : Shared} {env : Env} {el t0 i0 t1 i1 : Expr} {sc : Scope} {ps : Pos} {it acc : Value}
theorem two_in : compTurn (scTwo el t0 i0 t1 i1 sc ps) 1 it acc env = (do
    standAt i1.pos
    match ← pyNext it with
    | none => pure (.done .next)
    | some v =>
      letOwnedTupleGo t1 it v
      assign t1 env v
      (do let x ← eval el env
          standAt el.pos
          let _ ← call (.builtin "set.add") [acc, x])
      again (.compLoop (scTwo el t0 i0 t1 i1 sc ps) 1 it acc env)) := by rfl
theorem two_out : compTurn (scTwo el t0 i0 t1 i1 sc ps) 0 it acc env = (do
    standAt i0.pos
    match ← pyNext it with
    | none => pure (.done .next)
    | some v =>
      letOwnedTupleGo t0 it v
      assign t0 env v
      let x ← eval i1 env
      standAt i1.pos
      let x ← foldedSetIterable i1 env x
      let _ ← runOwn (.compStart (scTwo el t0 i0 t1 i1 sc ps) 1 (← holding [x] (pyIter x)) acc env) env
      again (.compLoop (scTwo el t0 i0 t1 i1 sc ps) 0 it acc env)) := by rfl
/-- the inner loop -/
theorem goes_in (J : Nat → Shared → Prop)
    (one : ∀ n u, J n u → Stp (model P w) A env t1 it (fun s3 => wpAny (model P w) A (eval el env) (fun x s4 => wpAny (model P w) A (call (.builtin "set.add") [acc, x]) (fun _ s5 => ∃ m, m < n ∧ J m s5) (fun _ _ => False) s4) (fun _ _ => False) s3) (R (.ok .next)) u)
    (n : Nat) (h : J n s) : codeAny (model P w) A (.compLoop (scTwo el t0 i0 t1 i1 sc ps) 1 it acc env) R s := by
  refine codeAny_loop rfl J (fun n u hu => ?_) n h
  show wpAny _ A (Sem.onRaise (compTurn (scTwo el t0 i0 t1 i1 sc ps) 1 it acc env) _) _ _ u
  refine wpAny_noted (two_in ▸ wpAny_bind (wpAny_standAt (wpAny_bind (thnF (one n u hu) fun r s1 h1 => ?_))))
  match r with
  | none => exact wpAny_pure h1
  | some v =>
    exact wpAny_bind (thnF h1 fun _ s2 h2 => wpAny_bind (thnF h2 fun _ s3 h3 => wpAny_bind (wpAny_bind (thnF h3 fun x s4 h4 => wpAny_bind (wpAny_standAt (wpAny_bind (thnF h4 fun _ s5 h5 => wpAny_pure (wpAny_pure ⟨rfl, h5⟩))))))))
/-- the outer loop: at each step the inner one is begun -/
theorem goes_out (fo : ∀ x, foldedSetIterable i1 env x = pure x) (J : Nat → Shared → Prop)
    (one : ∀ n u, J n u → Stp (model P w) A env t0 it (fun s3 => wpAny (model P w) A (eval i1 env) (fun x s4 => wpAny (model P w) A (pyIter x) (fun k s5 => codeAny (model P w) A (.compStart (scTwo el t0 i0 t1 i1 sc ps) 1 k acc env) (fun r s6 => (∃ f, r = .ok f) ∧ ∃ m, m < n ∧ J m s6) s5) (fun _ _ => False) s4) (fun _ _ => False) s3) (R (.ok .next)) u)
    (n : Nat) (h : J n s) : codeAny (model P w) A (.compLoop (scTwo el t0 i0 t1 i1 sc ps) 0 it acc env) R s := by
  refine codeAny_loop rfl J (fun n u hu => ?_) n h
  show wpAny _ A (Sem.onRaise (compTurn (scTwo el t0 i0 t1 i1 sc ps) 0 it acc env) _) _ _ u
  refine wpAny_noted (two_out ▸ wpAny_bind (wpAny_standAt (wpAny_bind (thnF (one n u hu) fun r s1 h1 => ?_))))
  match r with
  | none => exact wpAny_pure h1
  | some v =>
    refine wpAny_bind (thnF h1 fun _ s2 h2 => ?_)
    refine wpAny_bind (thnF h2 fun _ s3 h3 => ?_)
    refine wpAny_bind (thnF h3 fun x s4 h4 => ?_)
    refine wpAny_bind (wpAny_standAt (wpAny_bind (wpAny_of_eq (fo x) ?_)))
    refine wpAny_bind (wpAny_holding (thnF h4 fun k s5 h5 => wpAny_bind (wpAny_runOwn ?_)))
    rw [Around.mark_none]
    refine codeAny_mono h5 fun r s6 h6 => ?_
    obtain ⟨⟨f, rfl⟩, h6⟩ := h6
    first
      | exact wpAny_pure ⟨rfl, h6⟩
      | exact wpAny_bind (wpAny_pure (wpAny_pure ⟨rfl, h6⟩))
/-- the inner walk begins -/
theorem begins_in (h0 : codeAny (model P w) A (.compLoop (scTwo el t0 i0 t1 i1 sc ps) 1 it acc env) R s)
    (h1 : wpAny (model P w) A (pyIter it) (fun k s' => codeAny (model P w) A (.compLoop (scTwo el t0 i0 t1 i1 sc ps) 1 k acc env) R s') (notedBy (model P w) A env fun x s' => R (.error x) s') s) :
    codeAny (model P w) A (.compStart (scTwo el t0 i0 t1 i1 sc ps) 1 it acc env) R s := by
  refine codeAny_of_tree (show wpAny _ _ (Sem.onRaise (compStart (scTwo el t0 i0 t1 i1 sc ps) 1 it acc env) _) _ _ s from wpAny_notedAt ?_)
  have k1 : ∀ {k : Value} {s' : Shared}, codeAny (model P w) A (.compLoop (scTwo el t0 i0 t1 i1 sc ps) 1 k acc env) R s' → Code.quiet (.compLoop (scTwo el t0 i0 t1 i1 sc ps) 1 k acc env) = true ∧ codeAny (model P w) A (.compLoop (scTwo el t0 i0 t1 i1 sc ps) 1 k acc env) R s' := fun h => ⟨rfl, h⟩
  unfold compStart
  show wpAny _ _ (ask >>= _) _ _ s
  refine wpAny_bind (wpAny_askSetting (wpAny_ite ?_))
  split
  · first
      | exact wpAny_pure (k1 h0)
      | exact wpAny_bind (wpAny_pure (wpAny_pure (k1 h0)))
  · first
      | exact wpAny_bind (wpAny_rule (wpAny_bind (wpAny_standAt (wpAny_bind (wpAny_mono h1 (fun k s' h => wpAny_pure (k1 h)) fun _ _ x => x)))))
      | (refine wpAny_bind (wpAny_rule ?_)
         show wpAny _ _ (standAt i1.pos >>= _) _ _ s
         exact wpAny_bind (wpAny_standAt (wpAny_bind (wpAny_mono h1 (fun k s' h => wpAny_pure (k1 h)) fun _ _ x => x))))
end
section
variable {X : Cx}
/-- one step at the layer: yes is reached with the target stored; from any later state in which what was known is known, the walk can go on -/
theorem walk_step {tg : Expr} {Jt : It} {fp : List Addr} {it : Addr} {tn : Nat → Heap → Prop} {g : TG} {i : Nat} {pins : List (Addr × Obj)} {s : Shared} {σ : L2.St} {H : Hp} {yes no : Shared → Prop} (T : Turn X.prog X.w X.K tg Jt fp it tn) (hc : X.calm = true) (xe : X.xe = fun _ _ => False) (pg : PG X tg g)
    (I : Inv X pins σ H s) (hf : ∀ b ∈ fp, FpOk X pins H b) (st : tn i s.heap)
    (h : (Jt.stop i H ∧ ∀ u, Inv X pins σ H u → no u) ∨ (Jt.go i H ∧ ∀ x Hx, Jt.yld i H x Hx → ∃ C : L2.St → Hp → Prop, g x σ Hx C ∧ ∀ σ2 H2 ps u, C σ2 H2 → Inv X (pins ++ ps) σ2 H2 u →
      (∀ u' σ' H', Inv X (pins ++ ps) σ' H' u' → σ.length = σ'.length → (∀ (j : Nat) v, σ[j]? = some (some v) → σ'[j]? = some (some v)) → Inv X pins σ H' u' ∧ tn (i + 1) u'.heap ∧ ∀ b ∈ fp, H' b = none) → yes u)) :
    Stp (model X.prog X.w) X.A X.env tg (.ref it) yes no s := by
  unfold Stp
  rcases h with ⟨stop, k⟩ | ⟨go, k⟩
  · refine thnF (T.done X rfl rfl rfl hc i pins s σ H (fun _ _ => False) I hf st stop) fun r u hu => ?_
    obtain ⟨rfl, Iu⟩ := hu
    exact k u Iu
  · refine thnF (T.item X rfl rfl rfl hc i pins s σ H (fun _ _ => False) I hf st go) fun r u hu => ?_
    obtain ⟨v, rfl, hv⟩ := hu
    refine thnF hv fun _ u1 h1 => ?_
    obtain ⟨x, Hx, Ix, rx, yx, stx, nx⟩ := h1
    obtain ⟨C, gC, kC⟩ := k x Hx yx
    have put := pg.run _ u1 σ Hx x v C (Ix.pinned (fun b hb => ⟨nx b hb, (hf b hb).2⟩) (T.obj _ _ stx)) rx gC
    rw [xe] at put
    refine thnF put fun _ u2 h2 => ?_
    obtain ⟨σ2, H2, I2, c2⟩ := h2
    refine kC σ2 H2 _ u2 c2 I2 fun u' σ' H' I' hl hk => ?_
    have still : ∀ b ∈ fp, ∀ o, u1.heap.get? b = some o → u'.heap.get? b = some o ∧ H' b = none := fun b hb o e => by
      have z := I'.pin (b, o) (List.mem_append_right _ (List.mem_append_right _ (mem_pinsAt hb e)))
      exact ⟨z.1, z.2.1⟩
    refine ⟨I'.unpinned.weak hl hk, T.keep _ _ _ stx fun b hb o e => (still b hb o e).1, fun b hb => ?_⟩
    obtain ⟨o, e, _⟩ := T.obj _ _ stx b hb
    exact (still b hb o e).2
end
end BW
/-! Sets of texts and ints that can be walked, too: made, added to, sorted. -/
namespace BW
open PySem PySem.Spec PyProof.Rows L2
def kyOf (e : Int × Value) : Key := match e.2 with
  | .str x _ => .inr x
  | .int i _ => .inl i
  | _ => .inl 0
section
variable {P : Program} {w : World}
theorem ky_of {k : Key} {v : Value} {z : Int} (h : (mixKind P w).is k v = true) : kyOf (z, v) = k := by
  rcases keyIs_shape h with ⟨i, t, rfl, rfl⟩ | ⟨x, t, rfl, rfl⟩ <;> rfl
/-- the entry of some key -/
def Kyed (P : Program) (w : World) (e : Int × Value) : Prop := (mixKind P w).is (kyOf e) e.2 = true ∧ e.1 = (mixKind P w).hash (kyOf e) ∧ e.2.scannable = true
theorem kyed {k : Key} {v : Value} (h : (mixKind P w).is k v = true) (sc : v.scannable = true) : Kyed P w ((mixKind P w).hash k, v) := by
  have e : kyOf ((mixKind P w).hash k, v) = k := ky_of h
  refine ⟨?_, ?_, sc⟩
  · rw [e]
    exact h
  · rw [e]
theorem kyed_elems {l : List (Int × Value)} (g : ∀ e ∈ l, Kyed P w e) : ElemsOf (mixKind P w) l := fun e he => ⟨⟨kyOf e, (g e he).1, (g e he).2.1⟩, (g e he).2.2⟩
theorem kyed_mem {l : List (Int × Value)} (g : ∀ e ∈ l, Kyed P w e) (k : Key) : k ∈ l.map kyOf ↔ ∃ e ∈ l, (mixKind P w).is k e.2 = true := by
  constructor
  · intro h
    obtain ⟨e, he, rfl⟩ := List.mem_map.mp h
    exact ⟨e, he, (g e he).1⟩
  · rintro ⟨e, he, h⟩
    exact List.mem_map.mpr ⟨e, he, (mixKind P w).inj e.2 _ _ (g e he).1 h⟩
/-- entries and table: the members are those of S; the table rises and is led -/
structure WTab (P : Program) (w : World) (es : Array (Int × Value)) (t : SetTable) (S : Key → Bool) : Prop where
  all : ∀ e ∈ es.toList, Kyed P w e
  nd : (es.toList.map kyOf).Nodup
  mem : ∀ k, S k = true ↔ k ∈ es.toList.map kyOf
  few : es.size < scanBound
  fits : t.fits es.size = true
  ris : Ris t.place.toList
  led : w.params.followText "set-order" = true ∨ t.led = true
theorem WTab.perm {es fs : Array (Int × Value)} {t u : SetTable} {S : Key → Bool} (W : WTab P w es t S) (p : fs.toList.Perm es.toList) (f : u.fits fs.size = true) (r : Ris u.place.toList) (l : u.led = t.led) : WTab P w fs u S where
  all := fun e he => W.all e (p.mem_iff.mp he)
  nd := (p.map kyOf).nodup_iff.mpr W.nd
  mem := fun k => (W.mem k).trans (p.map kyOf).mem_iff.symm
  few := by
    have e := p.length_eq
    rw [Array.length_toList, Array.length_toList] at e
    rw [e]
    exact W.few
  fits := f
  ris := r
  led := W.led.imp id fun z => l.trans z
theorem WTab.more {es fs : Array (Int × Value)} {t u : SetTable} {S : Key → Bool} {k : Key} {v : Value} (W : WTab P w es t S) (hk : (mixKind P w).is k v = true) (sc : v.scannable = true) (new : S k = false) (room : es.size + 1 < scanBound)
    (p : fs.toList.Perm (((mixKind P w).hash k, v) :: es.toList)) (f : u.fits fs.size = true) (r : Ris u.place.toList) (l : u.led = t.led) : WTab P w fs u (fun j => S j || decide (j = k)) where
  all := fun e he => by
    rcases List.mem_cons.mp (p.mem_iff.mp he) with rfl | z
    · exact kyed hk sc
    · exact W.all e z
  nd := by
    refine (p.map kyOf).nodup_iff.mpr (List.nodup_cons.mpr ⟨fun z => ?_, W.nd⟩)
    rw [show kyOf ((mixKind P w).hash k, v) = k from ky_of hk, ← W.mem k, new] at z
    cases z
  mem := fun j => by
    rw [(p.map kyOf).mem_iff, List.map_cons, List.mem_cons, show kyOf ((mixKind P w).hash k, v) = k from ky_of hk, Bool.or_eq_true, decide_eq_true_eq, W.mem j]
    exact Or.comm
  few := by
    have e := p.length_eq
    rw [List.length_cons, Array.length_toList, Array.length_toList] at e
    omega
  fits := f
  ris := r
  led := W.led.imp id fun z => l.trans z
def SetW (P : Program) (w : World) (h : Heap) (a : Addr) (S : Key → Bool) (n : Nat) : Prop := ∃ o es ep t, h.get? a = some o ∧ o.ExactSet ∧ o.data = .set es ep t ∧ WTab P w es t S ∧ es.size = n
theorem SetW.plain {h : Heap} {a : Addr} {S : Key → Bool} {n : Nat} (R : SetW P w h a S n) : h.SetOf (mixKind P w) a S n := by
  obtain ⟨o, es, ep, t, ho, ex, hd, W, hn⟩ := R
  exact ⟨o, es, ep, t, ho, ex, hd, kyed_elems W.all, fun k => (W.mem k).trans (kyed_mem W.all k), W.few, W.fits, hn⟩
theorem SetW.stay {h h' : Heap} {a : Addr} {S : Key → Bool} {n : Nat} (R : SetW P w h a S n) (k : ∀ o, h.get? a = some o → h'.get? a = some o) : SetW P w h' a S n := by
  obtain ⟨o, es, ep, t, ho, r⟩ := R
  exact ⟨o, es, ep, t, k o ho, r⟩
theorem setW_bare {h' : Heap} {D : Addr} {o : Obj} (hd : h'.get? D = some o) (e : o = { cls := .type "set", dict := none, data := .set #[] 0 (.fresh 0 0 (!w.params.followText "set-order")) }) : SetW P w h' D (fun _ => false) 0 := by
  subst e
  refine ⟨_, #[], 0, _, hd, ⟨rfl, rfl, rfl⟩, rfl, ⟨fun e he => by simp at he, by simp, fun k => by simp, by decide, by rfl, List.Pairwise.nil, ?_⟩, rfl⟩
  show _ ∨ (!w.params.followText "set-order") = true
  cases w.params.followText "set-order" with
  | true => exact .inl rfl
  | false => exact .inr rfl
section
variable {A : Around} {E : Value → Shared → Prop} {u : Shared} {D : Addr} {S : Key → Bool} {n : Nat}
theorem put_at {h : Heap} {o : Obj} {es fs : Array (Int × Value)} {ep : Nat} {t v : SetTable} (ho : h.get? D = some o) (hd : o.data = .set es ep t) : (h.update D (Obj.putSet fs v)).get? D = some { o with data := .set fs (ep + 1) v } := by
  rw [← putSet_of fs v hd]
  exact Heap.get?_update_self (Obj.putSet fs v) ho (by rw [putSet_of fs v hd]; rfl)
/-- what is done when a new one is laid: perhaps the table grows -/
theorem lay_end {note : Bool → Sem Unit} (hn : ∀ (b : Bool) (z : Shared) (F : Unit → Shared → Prop), F () z → wpAny (model P w) A (note b) F E z) {o : Obj} {es fs : Array (Int × Value)} {ep : Nat} {t v : SetTable} (ho : u.heap.get? D = some o) (ex : o.ExactSet) (hd : o.data = .set es ep t)
    (W : WTab P w fs v S) {was : Bool} {F : Option Bool → Shared → Prop} (k : ∀ h', Heap.SameBut D u.heap h' → SetW P w h' D S fs.size → F (some true) { u with heap := h' }) :
    wpAny (model P w) A (do
      storeSet D fs v
      if (!was && v.tooFull) = true then do
          note (relayAll v fs (SetTable.grown fs.size)).2.2
          storeSet D (relayAll v fs (SetTable.grown fs.size)).1 (relayAll v fs (SetTable.grown fs.size)).2.1
          pure (some true)
        else pure (some true)) F E u := by
  have at1 := put_at (fs := fs) (v := v) ho hd
  have but1 := Heap.SameBut.update u.heap D (Obj.putSet fs v)
  refine wpAny_bind (wpAny_storeSet_of ho hd ?_ (fits_of_scanBound W.few))
  by_cases big : (!was && v.tooFull) = true
  · rw [if_pos big]
    have W2 := W.perm (relayAll_perm v fs (SetTable.grown fs.size)) (relayAll_fits v fs (SetTable.grown fs.size)) (relayAll_ris v fs (SetTable.grown fs.size)) (relayAll_led v fs (SetTable.grown fs.size))
    have len2 : (relayAll v fs (SetTable.grown fs.size)).1.size = fs.size := by
      have e := (relayAll_perm v fs (SetTable.grown fs.size)).length_eq
      rw [Array.length_toList, Array.length_toList] at e
      exact e
    refine wpAny_bind (hn _ _ _ (wpAny_bind (wpAny_storeSet_of at1 rfl (wpAny_pure (k _ (but1.trans (Heap.SameBut.update _ D _)) ?_)) (fits_of_scanBound W2.few))))
    exact ⟨_, _, _, _, put_at at1 rfl, ex, rfl, W2, len2⟩
  · rw [if_neg big]
    exact wpAny_pure (k _ but1 ⟨_, fs, _, v, at1, ex, rfl, W, rfl⟩)
theorem addH {key : Key} {x : Value} {F : Bool → Shared → Prop} (hx : (mixKind P w).is key x = true) (sc : x.scannable = true) (R : SetW P w u.heap D S n) (room : n + 1 < scanBound)
    (k : ∀ h', Heap.SameBut D u.heap h' → SetW P w h' D (fun j => S j || decide (j = key)) (if S key = true then n else n + 1) → F (!S key) { u with heap := h' }) :
    wpAny (model P w) A (setAddHashed D x ((mixKind P w).hash key)) F E u := by
  obtain ⟨o, es, ep, t, ho, ex, hd, W, rfl⟩ := R
  have els := kyed_elems W.all
  unfold setAddHashed setAddHashedIn
  refine wpAny_holding (wpAny_bind (wpAny_setState_of ho hd W.fits ?_))
  dsimp only
  rw [byScan_of sc W.few els]
  simp only [↓reduceIte]
  unfold setAddByScan
  refine wpAny_bind (wpAny_bind (wpAny_rule (wpAny_bind (wpAny_setScan_of hx ho hd W.fits els ?_))))
  cases found : List.findIdx? (fun e => (mixKind P w).is key e.2) es.toList with
  | some j =>
    obtain ⟨lt, is, _⟩ := List.findIdx?_eq_some_iff_getElem.mp found
    have has : S key = true := (W.mem key).2 ((kyed_mem W.all key).2 ⟨_, List.getElem_mem lt, is⟩)
    have W0 : WTab P w es t (fun j => S j || decide (j = key)) := ⟨W.all, W.nd, fun i => by
      rw [← W.mem i, Bool.or_eq_true, decide_eq_true_eq]
      exact ⟨fun c => c.elim id fun e => e ▸ has, .inl⟩, W.few, W.fits, W.ris, W.led⟩
    have z := k u.heap (Heap.SameBut.refl D u.heap) ⟨o, es, ep, t, ho, ex, hd, W0, (if_pos has).symm⟩
    rw [has] at z
    exact wpAny_pure (wpAny_pure z)
  | none =>
    have hasn : S key = false := by
      cases q : S key with
      | false => rfl
      | true =>
        obtain ⟨e, he, c⟩ := (kyed_mem W.all key).1 ((W.mem key).1 q)
        have no := List.findIdx?_eq_none_iff.mp found e he
        rw [c] at no
        cases no
    have gives : ∀ (b : Bool) (z : Shared) (G : Unit → Shared → Prop), G () z → wpAny (model P w) A (match b with | true => rule "set.scan.the-table-gave-way" | false => pure ()) G E z := fun b z G g => by
      cases b
      · exact wpAny_pure g
      · exact wpAny_rule g
    have W1 := W.more hx sc hasn room ((layNew_perm t es ((mixKind P w).hash key) x).trans (by rw [Array.toList_push]; exact List.perm_append_singleton _ _)) (layNew_fits t es ((mixKind P w).hash key) x) (layNew_ris t es ((mixKind P w).hash key) x W.ris) (layNew_led t es ((mixKind P w).hash key) x)
    have len1 : (layNew t es ((mixKind P w).hash key) x).1.size = es.size + 1 := by
      have e := (layNew_perm t es ((mixKind P w).hash key) x).length_eq
      rw [Array.length_toList, Array.length_toList, Array.size_push] at e
      exact e
    dsimp only
    generalize layNew t es ((mixKind P w).hash key) x = L at W1 len1 ⊢
    obtain ⟨fs, v, was, gave⟩ := L
    dsimp only at W1 len1 ⊢
    have fin : ∀ h', Heap.SameBut D u.heap h' → SetW P w h' D (fun j => S j || decide (j = key)) fs.size → F true { u with heap := h' } := fun h' b r => by
      have z := k h' b
      rw [hasn] at z
      rw [len1] at r
      exact z r
    refine wpAny_bind (gives _ _ _ ?_)
    split
    · refine wpAny_bind ?_
      rw [hashByValue_scannable 8 sc]
      refine wpAny_pure ?_
      refine lay_end (S := fun j => S j || decide (j = key)) (fun b z G g => ?_) ho ex hd ?_ fun h' b r => ?_
      · cases b
        · exact wpAny_pure g
        · exact wpAny_rule g
      · first
          | exact W1
          | (split
             · first | exact W1 | exact ⟨W1.all, W1.nd, W1.mem, W1.few, SetTable.fits_plain_off W1.fits, W1.ris, W1.led⟩
             · first | exact W1 | exact ⟨W1.all, W1.nd, W1.mem, W1.few, SetTable.fits_plain_off W1.fits, W1.ris, W1.led⟩)
      · dsimp only
        exact wpAny_pure (fin h' b r)
    · refine wpAny_bind (wpAny_pure ?_)
      simp only [↓reduceIte]
      refine lay_end (fun b z G g => ?_) ho ex hd W1 fun h' b r => ?_
      · cases b
        · exact wpAny_pure g
        · exact wpAny_rule g
      · dsimp only
        exact wpAny_pure (fin h' b r)
theorem addV {key : Key} {x : Value} {F : Bool → Shared → Prop} (hx : (mixKind P w).is key x = true) (sc : x.scannable = true) (R : SetW P w u.heap D S n) (room : n + 1 < scanBound)
    (k : ∀ h', Heap.SameBut D u.heap h' → SetW P w h' D (fun j => S j || decide (j = key)) (if S key = true then n else n + 1) → F (!S key) { u with heap := h', toks := u.toks + 1 }) : wpAny (model P w) A (setAdd D x) F E u := by
  unfold setAdd
  exact wpAny_holding (wpAny_bind ((mixKind P w).pyHash hx (addH (u := { u with toks := u.toks + 1 }) hx sc R room k)))
theorem addC {key : Key} {x : Value} {Gq : Value → Shared → Prop} (hx : (mixKind P w).is key x = true) (sc : x.scannable = true) (R : SetW P w u.heap D S n) (room : n + 1 < scanBound)
    (k : ∀ h', Heap.SameBut D u.heap h' → SetW P w h' D (fun j => S j || decide (j = key)) (if S key = true then n else n + 1) → Gq .none { u with heap := h', toks := u.toks + 1 }) : wpAny (model P w) A (call (.builtin "set.add") [.ref D, x]) Gq E u := by
  refine wpAny_call_entry F.slot_set_add R.plain.typeIs F.entry_set_add ?_ (F.args_set_add_2 _ _)
  unfold Builtin.«set.add» Builtin.Frozenset.oneOther
  simp only [List.isEmpty_nil, bind_assoc]
  unfold Builtin.Frozenset.addrOf
  refine wpAny_bind (wpAny_pure ?_)
  try dsimp only
  refine wpAny_bind (wpAny_pure ?_)
  try dsimp only
  refine wpAny_bind (addV hx sc R room fun h' b r => ?_)
  show wpAny _ _ (ret Value.none) _ _ _
  exact wpAny_pure ⟨_, rfl, k h' b r⟩
end
def SetWO (P : Program) (w : World) (a : Addr) (S : Key → Bool) (n : Nat) : HO := .ext fun h => SetW P w h a S n
theorem setWO_new {H : Hp} {h : Heap} {a : Addr} {S : Key → Bool} {n : Nat} (R : SetW P w h a S n) : ObjOk P w H h a (SetWO P w a S n) := by
  have ⟨o, _, _, _, ho, _⟩ := R
  exact ⟨R, ⟨o, ho⟩, fun h1 h2 p k => SetW.stay p k⟩
end
section
variable {X : Cx} {pins : List (Addr × Obj)} {σ : L2.St} {H : Hp} {s : Shared} {a : Addr} {S : Key → Bool} {n : Nat}
theorem setWO_get (I : Inv X pins σ H s) (ha : H a = some (SetWO X.prog X.w a S n)) : SetW X.prog X.w s.heap a S n := (I.hok a _ ha).1
def rSAddW (P : Program) (w : World) : V → List V → Hp → VK → Prop := fun x xs H Q => ∃ (a : Addr) (k : Key) (S : Key → Bool) (n : Nat), x = V.ref a ∧ xs = [kV k] ∧ H a = some (SetWO P w a S n) ∧ n + 1 < scanBound ∧
  Q .non (upd H a (SetWO P w a (fun j => S j || decide (j = k)) (if S k = true then n else n + 1)))
theorem mt_saddW : MtR X "set.add" (rSAddW X.prog X.w) := by
  intro pins s σ H x xs v us Q I rx rxs h
  obtain ⟨a, k, S, n, rfl, rfl, ha, room, q⟩ := h
  cases (show v = Value.ref a from rx)
  obtain ⟨u, rfl, ru⟩ := rxs.one
  refine addC (kV_is ru) (key_scan ru) (setWO_get I ha) room fun h' b new => ?_
  have there : ∃ o, h'.get? a = some o := by
    have ⟨o, _, _, _, ho, _⟩ := new
    exact ⟨o, ho⟩
  exact ⟨.non, _, I.write (e := a) (t' := s.toks + 1) (by rw [ha]; trivial) (.inl rfl) (fun c o nc hc => (b.2 c nc).trans hc) there (setWO_new new), rfl, q⟩
end
end BW
/-! {e for x in xs for y in ys} into a set that can be walked. -/
namespace BW
open PySem PySem.Spec PyProof.Rows L2
section
variable {X : Cx}
/-- {e for .. in .. for .. in ..}: D is the new set -/
def tSc2 (P : Program) (w : World) (wi : TI) (g : TG) (wj : TI) (gj : TG) (te : TE) (vs vj : List Nat) : TE := fun σ H Q => wi σ H fun J H1 => ∀ D, H1 D = none → ∃ W : Nat → Nat → Hp → Prop, (∃ m, W 0 m (upd H1 D (SetWO P w D (fun _ => false) 0))) ∧ ∀ i m G, W i m G →
  (J.stop i G ∧ Q (.ref D) G) ∨ (J.go i G ∧ ∃ Nx : Hp → Prop, (∀ G', Nx G' → ∃ m', m' < m ∧ W (i + 1) m' G') ∧ ∀ x G', J.yld i G x G' → g x (wipe σ vs) G' fun σ2 H2 => wipe σ2 vs = wipe σ vs ∧
    wj σ2 H2 fun J1 H4 => ∃ V1 : Nat → Nat → Hp → Prop, (∃ m, V1 0 m H4) ∧ ∀ j k F, V1 j k F → (J1.stop j F ∧ Nx F) ∨ (J1.go j F ∧ ∃ Ny : Hp → Prop, (∀ F', Ny F' → ∃ k', k' < k ∧ V1 (j + 1) k' F') ∧ ∀ y F', J1.yld j F y F' →
      gj y (wipe σ2 vj) F' fun σ3 H5 => wipe σ3 vj = wipe σ2 vj ∧ te σ3 H5 fun z H7 => ∃ (key : Key) (S : Key → Bool) (n : Nat), z = kV key ∧ H7 D = some (SetWO P w D S n) ∧ n + 1 < scanBound ∧ Ny (upd H7 D (SetWO P w D (fun a => S a || decide (a = key)) (if S key = true then n else n + 1)))))
theorem sc2_loop {el t0 i0 t1 i1 : Expr} {sc : Scope} {ps : Pos} {own : List (Str × Nat)} {vj : List Nat} {wj : TI} {g gj : TG} {te : TE} {σ : L2.St} {J : It} {fp : List Addr} {it D : Addr} {tn : Nat → Heap → Prop} {W : Nat → Nat → Hp → Prop} {Qe : Hp → Prop} {R : Result → Shared → Prop}
    (hc : X.calm = true) (xe : X.xe = fun _ _ => False) (hv : ∀ i ∈ vj, i ∈ own.map (·.2)) (fo : ∀ x, foldedSetIterable i1 X.env x = pure x) (T : Turn X.prog X.w X.K t0 J fp it tn) (pg : PG X t0 g) (pj : PG X t1 gj) (pi : PI X t1 i1 wj) (pe : PE X el te)
    (frm : ∀ {G : Hp} {u : Shared}, Inv X [] (wipe σ (own.map (·.2))) G u → (∀ b ∈ fp, G b = none) → ∀ b ∈ fp, FpOk X [] G b)
    (turn : ∀ i m G, W i m G → (J.stop i G ∧ Qe G) ∨ (J.go i G ∧ ∃ Nx : Hp → Prop, (∀ G', Nx G' → ∃ m', m' < m ∧ W (i + 1) m' G') ∧ ∀ x G', J.yld i G x G' → g x (wipe σ (own.map (·.2))) G' fun σ2 H2 => wipe σ2 (own.map (·.2)) = wipe σ (own.map (·.2)) ∧
      wj σ2 H2 fun J1 H4 => ∃ V1 : Nat → Nat → Hp → Prop, (∃ m, V1 0 m H4) ∧ ∀ j k F, V1 j k F → (J1.stop j F ∧ Nx F) ∨ (J1.go j F ∧ ∃ Ny : Hp → Prop, (∀ F', Ny F' → ∃ k', k' < k ∧ V1 (j + 1) k' F') ∧ ∀ y F', J1.yld j F y F' →
        gj y (wipe σ2 vj) F' fun σ3 H5 => wipe σ3 vj = wipe σ2 vj ∧ te σ3 H5 fun z H7 => ∃ (key : Key) (S : Key → Bool) (n : Nat), z = kV key ∧ H7 D = some (SetWO X.prog X.w D S n) ∧ n + 1 < scanBound ∧ Ny (upd H7 D (SetWO X.prog X.w D (fun a => S a || decide (a = key)) (if S key = true then n else n + 1))))))
    (last : ∀ G u, Inv X [] (wipe σ (own.map (·.2))) G u → Qe G → R (.ok .next) u) {m : Nat} {G : Hp} {s : Shared} (I : Inv X [] (wipe σ (own.map (·.2))) G s) (st : tn 0 s.heap) (nf : ∀ b ∈ fp, G b = none) (w0 : W 0 m G) :
    codeAny (model X.prog X.w) X.A (.compLoop (scTwo el t0 i0 t1 i1 sc ps) 0 (.ref it) (.ref D) X.env) R s := by
  refine goes_out fo (fun n u => ∃ i G, Inv X [] (wipe σ (own.map (·.2))) G u ∧ tn i u.heap ∧ (∀ b ∈ fp, G b = none) ∧ W i n G) ?_ m ⟨0, G, I, st, nf, w0⟩
  rintro n u ⟨i, G, Iu, su, nu, wu⟩
  refine walk_step T hc xe pg Iu (frm Iu nu) su ?_
  rcases turn i n G wu with ⟨stop, qe⟩ | ⟨go, Nx, hNx, step⟩
  · exact .inl ⟨stop, fun u1 I1 => last G u1 I1 qe⟩
  refine .inr ⟨go, fun x Gx yx => ⟨_, step x Gx yx, fun σ2 H2 pl u2 c2 I2 back => ?_⟩⟩
  obtain ⟨e2, c2⟩ := c2
  have l2 : (wipe σ (own.map (·.2))).length = σ2.length := by rw [← e2, wipe_length]
  have src := pi.run _ u2 σ2 H2 _ I2 c2
  rw [xe] at src
  refine thnF src fun v u3 h3 => thnF h3 fun k u4 h4 => ?_
  obtain ⟨it1, fp1, tn1, J1, H4, rfl, I4, T1, s4, f4, V1, ⟨m1, v1⟩, turn1⟩ := h4
  have inner : codeAny (model X.prog X.w) X.A (.compLoop (scTwo el t0 i0 t1 i1 sc ps) 1 (.ref it1) (.ref D) X.env) (fun r s6 => (∃ f, r = .ok f) ∧ ∃ m, m < n ∧ ∃ i G, Inv X [] (wipe σ (own.map (·.2))) G s6 ∧ tn i s6.heap ∧ (∀ b ∈ fp, G b = none) ∧ W i m G) u4 := by
    refine goes_in (fun k u => ∃ j F, Inv X ([] ++ pl) (wipe σ2 vj) F u ∧ tn1 j u.heap ∧ (∀ b ∈ fp1, F b = none) ∧ V1 j k F) ?_ m1 ⟨0, H4, I4.weak (wipe_length _ _) (fun j v e => (wipe_some e).1), s4, fun b hb => (f4 b hb).1, v1⟩
    rintro k u5 ⟨j, F, I5, s5, n5, w5⟩
    refine walk_step T1 hc xe pj I5 (fun b hb => ⟨n5 b hb, (f4 b hb).2⟩) s5 ?_
    rcases turn1 j k F w5 with ⟨stop1, nx⟩ | ⟨go1, Ny, hNy, step1⟩
    · refine .inl ⟨stop1, fun u6 I6 => ⟨⟨_, rfl⟩, ?_⟩⟩
      obtain ⟨m', lt, w'⟩ := hNx F nx
      obtain ⟨b1, b2, b3⟩ := back u6 (wipe σ2 vj) F I6 (l2.trans (wipe_length σ2 vj).symm) fun q v e => by
        rw [← e2] at e
        obtain ⟨z1, z2⟩ := wipe_some e
        rw [wipe_out fun z => z2 (hv q z)]
        exact z1
      exact ⟨m', lt, i + 1, F, b1, b2, b3, w'⟩
    refine .inr ⟨go1, fun y Fy yy => ⟨_, step1 y Fy yy, fun σ3 H5 pj' u6 c6 I6 back1 => ?_⟩⟩
    obtain ⟨e3, c6⟩ := c6
    have elt := pe.run _ u6 σ3 H5 _ I6 c6
    rw [xe] at elt
    refine thnF elt fun z u7 h7 => ?_
    obtain ⟨zv, H7, I7, rz, key, S, cnt, rfl, hD, room, ny⟩ := h7
    have add := mt_saddW (X := X) _ u7 σ3 H7 (.ref D) [kV key] (.ref D) [z] (fun _ F' => Ny F') I7 rfl (.cons rz .nil) ⟨D, key, S, cnt, rfl, rfl, hD, room, ny⟩
    rw [xe] at add
    refine thnF add fun _ u8 h8 => ?_
    obtain ⟨_, H8, I8, _, ny8⟩ := h8
    obtain ⟨k', lt, w'⟩ := hNy H8 ny8
    obtain ⟨b1, b2, b3⟩ := back1 u8 σ3 H8 I8 (by rw [← e3, wipe_length]) fun q v e => by
      rw [← e3] at e
      exact (wipe_some e).1
    exact ⟨k', lt, j + 1, H8, b1, b2, b3, w'⟩
  exact begins_in inner (T1.self X.A 0 _ _ _ s4 inner)
theorem pe_sc2 {el t0 i0 t1 i1 : Expr} {sc : Scope} {ps : Pos} {own : List (Str × Nat)} {vj : List Nat} {wi wj : TI} {g gj : TG} {te : TE} (hc : X.calm = true) (hN : X.N.Nodup) (hi : PI X t0 i0 wi) (ok : BlkOk X.N X.env.scope sc own) (hv : ∀ i ∈ vj, i ∈ own.map (·.2))
    (hg : ∀ u G C cl fp, PG (X.blk u G sc (compEnvC sc cl C X.env) fp) t0 g) (hj : ∀ u G C cl fp, PI (X.blk u G sc (compEnvC sc cl C X.env) fp) t1 i1 wj) (hk : ∀ u G C cl fp, PG (X.blk u G sc (compEnvC sc cl C X.env) fp) t1 gj) (he : ∀ u G C cl fp, PE (X.blk u G sc (compEnvC sc cl C X.env) fp) el te)
    (f0 : ∀ x, foldedSetIterable i0 X.env x = pure x := by intro _; rfl) (f1 : ∀ env x, foldedSetIterable i1 env x = pure x := by intro _ _; rfl) : PE X (scTwo el t0 i0 t1 i1 sc ps) (tSc2 X.prog X.w wi g wj gj te (own.map (·.2)) vj) := by
  refine ⟨fun pins s σ H Q I h => ?_⟩
  have clo : ∀ y ∈ sc.names, y.2 = .free → ∃ c, X.env.cells.lookup y.1 = some c := fun y hy e => (ok.free y hy e).elim (fun k => I.ok.has _ (.inl k)) fun k => I.ok.has _ (.inr k)
  rw [PpSet.eval_SetComp]
  refine wpAny_comprehension_free rfl f0 (closure_ok clo) ok.kind (fun y hy e => by rw [ok.uniq y hy, e]) (thn (hi.run pins s σ H _ I h) fun _ _ hx => thn hx fun _ u2 hit => ?_)
  obtain ⟨it, fp, tn, J, G2, rfl, I2, T, t2, fr2, q⟩ := hit
  refine PpSet.newSet_ok (newEnv_comp ?_)
  have free2 : G2 u2.heap.objs.size = none := I2.hok.fresh (Nat.le_refl _)
  obtain ⟨W, ⟨m0, w0⟩, turn⟩ := q u2.heap.objs.size free2
  have old3 : ∀ b o, u2.heap.get? b = some o → (u2.heap.push { cls := .type "set", dict := none, data := .set #[] 0 (.fresh 0 0 (!X.w.params.followText "set-order")) }).get? b = some o := fun b o e => Heap.get?_push_of_some _ e
  have size3 := Heap.size_push u2.heap { cls := .type "set", dict := none, data := .set #[] 0 (.fresh 0 0 (!X.w.params.followText "set-order")) }
  have I3 : Inv X pins σ (upd G2 u2.heap.objs.size (SetWO X.prog X.w u2.heap.objs.size (fun _ => false) 0)) { u2 with heap := u2.heap.push { cls := .type "set", dict := none, data := .set #[] 0 (.fresh 0 0 (!X.w.params.followText "set-order")) } } :=
    I2.laid (t' := u2.toks) old3 (Nat.le_refl _) (setWO_new (setW_bare (Heap.get?_push_size u2.heap rfl) rfl))
  generalize u2.heap.push { cls := .type "set", dict := none, data := .set #[] 0 (.fresh 0 0 (!X.w.params.followText "set-order")) } = h3 at old3 size3 I3 ⊢
  have small : ∀ b ∈ fp, b < u2.heap.objs.size := fun b hb => by
    obtain ⟨o, e, _⟩ := T.obj _ _ t2 b hb
    exact Heap.lt_size e
  generalize u2.heap.objs.size = D at size3 I3 free2 w0 turn small ⊢
  generalize eG : upd G2 D (SetWO X.prog X.w D (fun _ => false) 0) = G3 at I3 w0
  have fr3 : ∀ b ∈ fp, FpOk X pins G3 b ∧ b < h3.objs.size := fun b hb => ⟨⟨by rw [← eG, upd_ne (Nat.ne_of_lt (small b hb))]; exact (fr2 b hb).1, (fr2 b hb).2⟩, by rw [size3]; exact Nat.lt_succ_of_lt (small b hb)⟩
  have I4 := block_start I3 ok hN fr3
  show codeAny _ _ (.compStart (scTwo el t0 i0 t1 i1 sc ps) 0 (.ref it) (.ref D) (compEnvC sc (cellsFrom (h3.objs.size + 1) sc.names (cloFrom X.env.cells sc.names [])) h3.objs.size X.env)) (compPost (model X.prog X.w) X.A X.xe _ _ (.ref D) h3.objs.size) { u2 with heap := pushCells (h3.push { cls := .type "dict", data := .dict #[] }) sc.names }
  have t4 : tn 0 (pushCells (h3.push { cls := .type "dict", data := .dict #[] }) sc.names) := T.keep _ _ _ t2 fun b _ o e => pushCells_keeps _ _ _ _ (Heap.get?_push_of_some _ (old3 b o e))
  have loop := sc2_loop (X := X.blk { u2 with heap := h3 } G3 sc (compEnvC sc (cellsFrom (h3.objs.size + 1) sc.names (cloFrom X.env.cells sc.names [])) h3.objs.size X.env) fp) (el := el) (i0 := i0) (sc := sc) (ps := ps) (own := own) (R := compPost (model X.prog X.w) X.A X.xe none (EP X pins σ Q) (.ref D) h3.objs.size) (D := D) (W := W) (m := m0) (Qe := Q (.ref D))
    hc rfl hv (f1 _) T (hg _ _ _ _ _) (hk _ _ _ _ _) (hj _ _ _ _ _) (he _ _ _ _ _) (fun Iu hn b hb => ⟨hn b hb, (Iu.ok.exf b hb).1, Iu.ok.exfs b hb, .inl hb, fun x c e => (Iu.ok.exf b hb).2 x c e, fun p hp => absurd (show p ∈ ([] : List (Addr × Obj)) ++ [] from hp) (by simp)⟩) turn (fun G u Iu qe => ?_) I4 t4 (fun b hb => (fr3 b hb).1.1) w0
  · exact PpSet.codeAny_compStart_set loop (T.self X.A 0 _ _ _ t4 loop)
  have back : Inv X pins σ G u := I3.call' (ch := fp) Iu.os Iu.base Iu.hok Iu.bare fun b hb => ⟨(fr3 b hb).1.2.2.2.1, (fr3 b hb).1.2.1, (fr3 b hb).1.2.2.2.2.1, (fr3 b hb).1.2.2.2.2.2⟩
  have gone : G h3.objs.size = none := Iu.free
  obtain ⟨mm, hm, _⟩ := Iu.loc
  have okC := I3.fpOk (H' := G) (Nat.le_refl _) gone
  obtain ⟨c0, c1, c2, c3, c4, c5⟩ := okC
  exact ⟨mm, hm, fun h'' sb => ⟨.ref D, G, back.turned (t' := u.toks) (fun b o hb e => (sb.2 b hb).trans e) c0 c1 c3 c4 c5, rfl, qe⟩⟩
end
end BW
/-! set(a list of texts and ints), sorted(a set of texts). -/
namespace BW
open PySem PySem.Spec PyProof.Rows L2
section
variable {P : Program} {w : World} {A : Around} {R : Result → Shared → Prop} {I D : Addr} {fp wr : List Addr} {G : Array GenState → Array GenState → Prop} {n : Nat} {Pv : Nat → Value → Prop} {St : Nat → Shared → Prop} {ks : Nat → Key}
theorem upd_loop (W : WalksS P w A.in1 I fp wr G n Pv St) (nf : D ∉ fp) (val : ∀ i v, Pv i v → (mixKind P w).is (ks i) v = true ∧ v.scannable = true) (few : n + 1 < scanBound) : ∀ (d i : Nat), i + d = n → ∀ (u : Shared) (S : Key → Bool) (m : Nat), St i u → SetW P w u.heap D S m → m ≤ i → (∀ key, S key = true ↔ ∃ j, j < i ∧ ks j = key) →
    (∀ u' S' m', Moved (D :: wr) G u u' → SetW P w u'.heap D S' m' → m' ≤ n → (∀ key, S' key = true ↔ ∃ j, j < n ∧ ks j = key) → R (.ok (.ret .none)) u') → codeAny (model P w) A (.builtin "set.update.loop" ⟨[.ref D, .ref I], []⟩) R u := by
  have out : D ∉ wr := fun h => nf (W.sub _ h)
  have sub : ∀ b ∈ wr, b ∈ D :: wr := fun b hb => List.mem_cons_of_mem _ hb
  intro d
  induction d with
  | zero =>
    intro i hi u S m st R0 le has fin
    obtain rfl : i = n := by omega
    refine codeAny_builtin PyProof.Rows.F.entry_set_update_loop (?_ : wpAny _ (A.under _) _ _ _ _)
    rw [Around.under_plainId PyProof.Rows.F.plain_set_update_loop _]
    show wpAny _ A.in1 (pyNext (.ref I) >>= _) _ _ u
    refine wpAny_bind (W.done u _ _ st fun u1 mv => ?_)
    show wpAny _ A.in1 (ret Value.none) _ _ u1
    exact wpAny_pure (fin u1 S m (mv.mono sub) (R0.stay fun o e => mv.heap D o out e) le has)
  | succ d ih =>
    intro i hi u S m st R0 le has fin
    refine codeAny_builtin PyProof.Rows.F.entry_set_update_loop (?_ : wpAny _ (A.under _) _ _ _ _)
    rw [Around.under_plainId PyProof.Rows.F.plain_set_update_loop _]
    show wpAny _ A.in1 (pyNext (.ref I) >>= _) _ _ u
    refine wpAny_bind (W.item i u _ _ (by omega) st fun v u1 pv st1 mv => ?_)
    obtain ⟨is, sc⟩ := val i v pv
    show wpAny _ A.in1 (holding [v] (setAdd D v) >>= _) _ _ u1
    refine wpAny_bind (wpAny_holding (addV is sc (R0.stay fun o e => mv.heap D o out e) (by omega) fun h' but new => ?_))
    refine wpAny_pure ⟨plainId_quiet PyProof.Rows.F.plain_set_update_loop _, ih (i + 1) (by omega) _ _ _ (W.frame _ u1 _ _ st1 (Nat.le_succ _) fun b hb o e => ?_) new (by split <;> omega) (fun key => ?_) fun u' S' m' mv' r' le' has' => fin u' S' m' (Moved.trans W.gtrans ((mv.mono sub).then_heap (Nat.le_succ _) fun b o hb e => ?_) mv') r' le' has'⟩
    · rw [but.2 b fun z => nf (z ▸ hb)]
      exact e
    · rw [Bool.or_eq_true, decide_eq_true_eq, has key]
      constructor
      · rintro (⟨j, lt, e⟩ | e)
        · exact ⟨j, by omega, e⟩
        · exact ⟨i, by omega, e.symm⟩
      · rintro ⟨j, lt, e⟩
        by_cases z : j = i
        · exact .inr (by rw [← e, z])
        · exact .inl ⟨j, by omega, e⟩
    · rw [but.2 b fun z => hb (z ▸ List.mem_cons_self)]
      exact e
end
/-- set(l): the keys of the items -/
theorem set_from {P : Program} {w : World} {A : Around} {E : Value → Shared → Prop} {s : Shared} {l : Addr} {its : Array Value} {ks : Nat → Key} {Qv : Value → Shared → Prop} (calm : A.handled = none) (hl : s.heap.IsList l its) (val : ∀ (i : Nat) v, its[i]? = some v → (mixKind P w).is (ks i) v = true ∧ v.scannable = true) (few : its.size + 1 < scanBound)
    (k : ∀ (h' : Heap) (tk : Nat) (S : Key → Bool) (m : Nat), SetW P w h' s.heap.objs.size S m → m ≤ its.size → (∀ key, S key = true ↔ ∃ j, j < its.size ∧ ks j = key) → (∀ b o, s.heap.get? b = some o → h'.get? b = some o) → Qv (.ref s.heap.objs.size) { s with heap := h', toks := tk }) :
    wpAny (model P w) A (call (.type "set") [.ref l]) Qv E s := by
  obtain ⟨mroC, mroR, mro⟩ := PySem.F.called_set.mro
  have made := PySem.F.called_set.made
  have subs := PySem.F.called_set.sub
  refine wpAny_call (codeAny_of_tree (show wpAny _ _ (callAny (.type "set") _) _ _ _ from wpAny_pure ⟨Code.quiet_builtin _ (by decide +kernel), codeAny_builtin PySem.F.entry_type_call ?_⟩))
  rw [Around.under_plain (weight_type_call_type "set" [.ref l] []) rfl]
  have noT := PySem.F.called_set.notType
  have can := PySem.F.called_set.canCreate
  have chk := PySem.F.typeCall_set_1 (.ref l)
  repeat (any_goals (first | assumption | wp_step))
  generalize hB : ({ cls := .type "set", dict := none, data := .set #[] 0 (.fresh 0 0 (!w.params.followText "set-order")) } : Obj) = B
  refine codeAny_mono (code_set_led1 (.ref l) (E := E) (Q₁ := fun v u => v = .ref s.heap.objs.size ∧ u = { s with heap := s.heap.push B }) ⟨rfl, by rw [hB]⟩) fun r u hr => ?_
  match r, hr with
  | .error e, hr => exact hr
  | .ok (.ret v), hr =>
    obtain ⟨rfl, rfl⟩ := hr
    have gB : (s.heap.push B).get? s.heap.objs.size = some B := Heap.get?_push_size s.heap (by rw [← hB]; rfl)
    have tB : Shared.TypeIs { s with heap := s.heap.push B } (.ref s.heap.objs.size) "set" := ⟨B, gB, by rw [← hB]⟩
    have look := PySem.F.called_set.init.lookup
    have bnd := PySem.F.called_set.init.bind (.ref s.heap.objs.size)
    repeat (any_goals (first | assumption | wp_step))
    refine codeAny_mono (codeAny_call_builtin (R := wants (fun v u => v = .none ∧ ∃ h' tk S m, u = { s with heap := h', toks := tk } ∧ SetW P w h' s.heap.objs.size S m ∧ m ≤ its.size ∧ (∀ key, S key = true ↔ ∃ j, j < its.size ∧ ks j = key) ∧ ∀ b o, s.heap.get? b = some o → h'.get? b = some o) E) PySem.F.called_set.init.plain PySem.F.entry_set_init (check_set_init_1 tB ?_)) fun r2 u2 h2 => ?_
    · subst hB
      obtain ⟨⟨lc, ldt, lda, lsl⟩, gl, lcls, ln, ldat⟩ := hl
      dsimp only at lcls ldat
      subst lcls ldat
      have ltL : l < s.heap.objs.size := Heap.lt_size gl
      have gl2 : (s.heap.push { cls := .type "set", dict := none, data := .set #[] 0 (.fresh 0 0 (!w.params.followText "set-order")) }).get? l = some { cls := .type "list", dict := ldt, data := .seq its ln, slots := lsl } := Heap.get?_push_of_some _ gl
      have isL : (s.heap.push { cls := .type "set", dict := none, data := .set #[] 0 (.fresh 0 0 (!w.params.followText "set-order")) }).IsList l its := ⟨_, gl2, rfl, ln, rfl⟩
      have n1 := PySem.F.sub_list_set
      have n2 := PySem.F.sub_list_frozenset
      have n3 : (Value.type "list" == Value.type "dict") = false := by decide
      unfold Builtin.«set.__init__» noKeywords Builtin.Frozenset.updateFrom
      generalize hPI : pyIter = PI
      wp_walk
      subst hPI
      refine wpAny_pyIter_list isL ?_
      refine wpAny_bind (wpAny_runValue ?_)
      have size1 : (s.heap.push { cls := .type "set", dict := none, data := .set #[] 0 (.fresh 0 0 (!w.params.followText "set-order")) }).objs.size = s.heap.objs.size + 1 := Heap.size_push ..
      have apart : l ≠ (s.heap.push { cls := .type "set", dict := none, data := .set #[] 0 (.fresh 0 0 (!w.params.followText "set-order")) }).objs.size := fun e => absurd ltL (by rw [e, size1]; exact Nat.not_lt_of_le (Nat.le_succ _))
      have notIn : s.heap.objs.size ∉ [(s.heap.push { cls := .type "set", dict := none, data := .set #[] 0 (.fresh 0 0 (!w.params.followText "set-order")) }).objs.size, l] := fun z => by
        rcases List.mem_cons.mp z with z | z
        · rw [size1] at z
          exact Nat.ne_of_lt (Nat.lt_succ_self _) z
        · exact Nat.ne_of_gt ltL (List.mem_singleton.mp z)
      refine upd_loop (ks := ks) ((Walks.list (show A.in1.in1.in1.handled = none by simp [calm]) _ l apart its).toS) notIn (fun i v h => val i v h) few its.size 0 (Nat.zero_add _) _ (fun _ => false) 0 ⟨⟨_, Heap.get?_push_size _ rfl, rfl, rfl⟩, isL.push _⟩ (setW_bare (Heap.get?_push_of_some _ gB) rfl) (Nat.le_refl 0)
        (fun key => ⟨(fun z => nomatch z), (fun ⟨j, lt, _⟩ => absurd lt (Nat.not_lt_zero j))⟩) fun u' S' m' mv r' le' has' => ?_
      obtain ⟨h', g', d', tk', os'⟩ := u'
      have e1 : g' = s.gens := mv.gens
      have e2 : d' = s.drawn := mv.drawn
      have e3 : os' = s.os := mv.os
      subst e1 e2 e3
      show wpAny _ _ _ _ _ _
      refine wpAny_pure ?_
      show wpAny _ _ (ret Value.none) _ _ _
      refine wpAny_pure ⟨rfl, h', tk', S', m', rfl, r', le', has', fun b o e => ?_⟩
      have lt := Heap.lt_size e
      refine mv.heap b o (fun z => ?_) (Heap.get?_push_of_some _ (Heap.get?_push_of_some _ e))
      rcases List.mem_cons.mp z with z | z
      · exact Nat.ne_of_lt lt z
      · have z2 : b = (s.heap.push { cls := .type "set", dict := none, data := .set #[] 0 (.fresh 0 0 (!w.params.followText "set-order")) }).objs.size := List.mem_singleton.mp z
        rw [z2, size1] at lt
        exact absurd lt (Nat.not_lt_of_le (Nat.le_succ _))
    · match r2, h2 with
      | .error e, h2 => exact h2
      | .ok (.ret v2), h2 =>
        obtain ⟨rfl, h', tk, S, m, rfl, hS, le, has, old⟩ := h2
        repeat (any_goals (first | assumption | wp_step))
        exact k h' tk S m hS le has old
      | .ok .next, h2 => exact h2.elim
      | .ok .brk, h2 => exact h2.elim
      | .ok .cont, h2 => exact h2.elim
  | .ok .next, hr => exact hr.elim
  | .ok .brk, hr => exact hr.elim
  | .ok .cont, hr => exact hr.elim
end BW
/-! sorted(a set of texts); set(l) and sorted at the layer. -/
namespace BW
open PySem PySem.Spec PyProof.Rows L2
theorem strs_all : ∀ {vs : List Value}, (∀ v ∈ vs, ∃ z t, v = Value.str z t) → StrsAre vs (vs.map strOf)
  | [], _ => .nil
  | v :: vs, h => by
    obtain ⟨z, t, rfl⟩ := h v List.mem_cons_self
    exact .cons z t (strs_all fun u hu => h u (List.mem_cons_of_mem _ hu))
section
variable {P : Program} {w : World} {A : Around} {E : Value → Shared → Prop} {s : Shared} {a : Addr} {S : Key → Bool} {n : Nat}
theorem sorted_texts {Qv : Value → Shared → Prop} (R : SetW P w s.heap a S n) (calm : A.handled = none) (txt : ∀ k, S k = true → ∃ z, k = .inr z)
    (k : ∀ (u : Shared) (p : Addr) (out : Array Value) (c : Nat) (ys : List Str), (∀ b o, s.heap.get? b = some o → u.heap.get? b = some o) → u.gens = s.gens → u.os = s.os → s.heap.objs.size ≤ p → u.heap.get? p = some (seqObj "list" out c) → StrsAre out.toList ys → sortedS ys = true → ys.Nodup → (∀ z, z ∈ ys ↔ S (.inr z) = true) → ys.length = n → Qv (.ref p) u) :
    wpAny (model P w) A (call (.builtin "sorted") [.ref a]) Qv E s := by
  obtain ⟨o, es, ep, t, ho, ex, hd, W, rfl⟩ := R
  have isS : ∀ e ∈ es.toList, ∃ z t, e.2 = Value.str z t ∧ kyOf e = .inr z := fun e he => by
    obtain ⟨z, hz⟩ := txt (kyOf e) ((W.mem _).2 (List.mem_map.mpr ⟨e, he, rfl⟩))
    rcases keyIs_shape (W.all e he).1 with ⟨i, t, h1, h2⟩ | ⟨x, t, h1, h2⟩
    · rw [hz] at h1
      cases h1
    · exact ⟨x, t, h2, h1⟩
  refine Calls.call_function_entry kind_sorted plain_sorted entry_sorted (args_sorted1 _) ?_
  unfold Builtin.«sorted»
  refine wpAny_bind (m := checkCount "sorted" 1 1 _) (wpAny_pure (wpAny_bind (collect_set (A := A.in1) calm ⟨o, ho, ex.1, hd⟩ W.fits W.few W.ris W.led fun u1 vs old1 up1 g1 o1 pm => ?_)))
  have len : vs.length = es.size := by rw [pm.length_eq, List.length_map, Array.length_toList]
  have small : vs.length ≤ sizeLine := by
    rw [len]
    exact fits_of_scanBound W.few
  have txts : StrsAre vs (vs.map strOf) := strs_all fun v hv => by
    obtain ⟨e, he, rfl⟩ := List.mem_map.mp (pm.mem_iff.mp hv)
    obtain ⟨z, t, h1, _⟩ := isS e he
    exact ⟨z, t, h1⟩
  have keys : (vs.map strOf).map Sum.inr = (vs.map fun v => kyOf (0, v)) := by
    rw [List.map_map]
    refine List.map_congr_left fun v hv => ?_
    obtain ⟨e, he, rfl⟩ := List.mem_map.mp (pm.mem_iff.mp hv)
    obtain ⟨z, t, h1, h2⟩ := isS e he
    show Sum.inr (strOf e.2) = kyOf (0, e.2)
    rw [h1]
    rfl
  have pk : ((vs.map strOf).map Sum.inr : List Key).Perm (es.toList.map kyOf) := by
    rw [keys]
    have e : (es.toList.map kyOf) = (es.toList.map (·.2)).map fun v => kyOf (0, v) := by
      rw [List.map_map]
      exact List.map_congr_left fun e he => by
        obtain ⟨z, t, h1, h2⟩ := isS e he
        show kyOf e = kyOf (0, e.2)
        rw [h2, h1]
        rfl
    rw [e]
    exact pm.map _
  refine wpAny_bind (wpAny_newList ?_ small)
  have at1 : (u1.heap.push (seqObj "list" vs.toArray 0)).get? u1.heap.objs.size = some (seqObj "list" vs.toArray 0) := Heap.get?_push_size _ rfl
  refine wpAny_bind (wpAny_holding (wpAny_call_entry slot_list_sort ⟨_, at1, rfl⟩ entry_list_sort (list_sort_treeKAny strKind_oneLt at1 txts.keysOf (fun v₁ v₂ rest e => keyKind_strs (by rw [← e]; exact txts)) small fun st' hp hs => ⟨_, rfl, ?_⟩) (args_list_sort _)))
  obtain ⟨ys, h1, h2, h3⟩ := sorted_out_str txts hp hs
  obtain ⟨c, hc⟩ := sortedHeap_at (vs := vs) (out := (arrOf st').map (·.2)) at1
  have py : (ys.map Sum.inr : List Key).Perm (es.toList.map kyOf) := (h2.map _).trans pk
  refine wpAny_pure ⟨_, rfl, k _ u1.heap.objs.size _ c ys (fun b o e => ?_) g1 o1 up1 hc h1 h3 ?_ (fun z => ?_) ?_⟩
  · have lt := Heap.lt_size (old1 b o e)
    show (sortedHeap (u1.heap.push (seqObj "list" vs.toArray 0)) u1.heap.objs.size vs _).get? b = some o
    rw [sortedHeap_old (Nat.ne_of_lt lt) (by rw [size_push']; exact Nat.lt_succ_of_lt lt)]
    exact Heap.get?_push_of_some _ (old1 b o e)
  · exact List.Pairwise.of_map Sum.inr (fun a b h e => h (congrArg Sum.inr e)) (py.nodup_iff.mpr W.nd)
  · rw [W.mem, ← py.mem_iff, List.mem_map]
    exact ⟨fun h => ⟨z, h, rfl⟩, fun ⟨y, hy, e⟩ => Sum.inr.inj e ▸ hy⟩
  · have e := py.length_eq
    rw [List.length_map, List.length_map, Array.length_toList] at e
    exact e
end
section
variable {X : Cx}
/-- sorted(a set of texts) -/
def rSortedW (P : Program) (w : World) : List V → Hp → VK → Prop := fun vs H Q => ∃ (a : Addr) (S : Key → Bool) (n : Nat), vs = [V.ref a] ∧ H a = some (SetWO P w a S n) ∧ (∀ k, S k = true → ∃ z, k = .inr z) ∧ n ≤ 1000 ∧
  ∀ (ys : List Str) (p : Addr), sortedS ys = true → ys.Nodup → (∀ z, z ∈ ys ↔ S (.inr z) = true) → ys.length = n → H p = none → Q (.ref p) (upd H p (.lst (ys.map V.str)))
theorem cr_sortedW (hc : X.calm = true) : CallR X (.builtin "sorted") (rSortedW X.prog X.w) := by
  intro pins s σ H vs us Q I r h
  obtain ⟨a, S, n, rfl, ha, txt, few, q⟩ := h
  rw [Vals.ref1 r]
  refine sorted_texts (setWO_get I ha) (I.ok.hd hc) txt fun u p out c ys old g o hp hg hi hs nd mem hl => ?_
  have short : (ys.map V.str).length ≤ sizeLine := by
    rw [List.length_map, hl]
    exact Evl.sz_of (by omega)
  have hn : H p = none := I.hok.fresh hp
  have J : Inv X pins σ (upd H p (.lst (ys.map V.str))) { s with heap := u.heap, gens := u.gens, drawn := u.drawn, toks := u.toks } :=
    I.call (ch := []) (Un.laid old hp hn) (I.hok.laid old hp ⟨short, out.toList, c, vals_of_strs hi, hg⟩) (by rw [g]; exact I.bare) (fun _ z => nomatch z)
  have same : u = { s with heap := u.heap, gens := u.gens, drawn := u.drawn, toks := u.toks } := by
    obtain ⟨_, _, _, _, _⟩ := u
    obtain ⟨_, _, _, _, _⟩ := s
    obtain rfl := o
    rfl
  rw [same]
  exact ⟨.ref p, _, J, rfl, q ys p hs nd mem hl hn⟩
/-- set(l) -/
def rSetL (K : PySem.W.Frag) (P : Program) (w : World) : List V → Hp → VK → Prop := fun vs H Q => ∃ (l : Addr) (ks : List Key), vs = [V.ref l] ∧ SqL K H l (ks.map kV) ∧ ks.length ≤ 1000 ∧
  ∀ (a : Addr) (S : Key → Bool) (m : Nat), H a = none → (∀ k, S k = true ↔ k ∈ ks) → m ≤ ks.length → Q (.ref a) (upd H a (SetWO P w a S m))
theorem cr_setL (hc : X.calm = true) : CallR X (.type "set") (rSetL X.K X.prog X.w) := by
  intro pins s σ H vs us Q I r h
  obtain ⟨l, ks, rfl, hl, few, q⟩ := h
  rw [Vals.ref1 r]
  obtain ⟨its, rv, pl, _⟩ := I.list hl
  have len : its.length = ks.length := by
    have e := rv.length
    rw [List.length_map] at e
    exact e.symm
  have each : ∀ (i : Nat) v, its.toArray[i]? = some v → (mixKind X.prog X.w).is (ks.getD i (.inl 0)) v = true ∧ v.scannable = true := fun i v hv => by
    have hv' : its[i]? = some v := by simpa using hv
    have lt : i < ks.length := by
      rw [← len]
      exact (List.getElem?_eq_some_iff.mp hv').1
    obtain ⟨u, hu, ru⟩ := rv.get (i := i) (x := kV ks[i]) (by rw [List.getElem?_map, List.getElem?_eq_getElem lt]; rfl)
    rw [hv'] at hu
    obtain rfl := Option.some.inj hu
    rw [List.getD_eq_getElem?_getD, List.getElem?_eq_getElem lt]
    exact ⟨kV_is ru, key_scan ru⟩
  refine set_from (P := X.prog) (w := X.w) (I.ok.hd hc) pl.isList each (by rw [List.size_toArray, len, show scanBound = 4096 from rfl]; omega) fun h' tk S m hS le has old => ?_
  rw [List.size_toArray, len] at le has
  refine ⟨.ref _, _, I.laid (t' := tk) old (Nat.le_refl _) (setWO_new hS), rfl, q _ S m (I.hok.fresh (Nat.le_refl _)) (fun key => ?_) le⟩
  rw [has key]
  constructor
  · rintro ⟨j, lt, e⟩
    rw [List.getD_eq_getElem?_getD, List.getElem?_eq_getElem lt] at e
    rw [← e]
    exact List.getElem_mem lt
  · intro hk
    obtain ⟨j, lt, e⟩ := List.mem_iff_getElem.mp hk
    exact ⟨j, lt, by rw [List.getD_eq_getElem?_getD, List.getElem?_eq_getElem lt]; exact e⟩
end
end BW
namespace K04
open PySem PySem.Spec PyProof.Rows L2 BW
abbrev sLandsOf : Stmt := topS 25
section
variable {P : Program} {w : World} {K : PySem.W.Frag} {mg : Str → Option Value} {base : Heap} {r : RC}
/-- {name for region in l for name in region.lands} -/
theorem sc2_lands {l : Addr} {xs : List V} {f : Nat → List Str} {H : Hp} {Q : VK} (hl : H l = some (.lst xs)) (hx : xs.length ≤ 4)
    (each : ∀ (i : Nat) x, xs[i]? = some x → ∃ p C dx fs a, x = V.ref p ∧ H p = some (.ins C dx fs) ∧ Cls K C ∧ NoAttr K C "lands" ∧ fs.lookup (Str.ofString "lands") = some (.ref a) ∧ H a = some (.tup ((f i).map V.str)) ∧ (f i).length ≤ 100)
    (q : ∀ (D : Addr) (S : Key → Bool) (n : Nat) (G : Hp), H D = none → Evl.Ex H G → G D = some (SetWO P w D S n) → (∀ k, S k = true ↔ ∃ i z, i < xs.length ∧ z ∈ f i ∧ k = .inr z) → n ≤ 1000 → Q (.ref D) G) :
    tSc2 P w (iList K (tVar 0)) (gName 1) (iTup K (tFld K (tVar 1) "lands")) (gName 2) (tVar 2) [1, 2] [2] [some (V.ref l), none, none] H Q := by
  refine ⟨.ref l, rfl, l, rfl, ⟨xs, Evl.sq_of hl⟩, fun D hD => ?_⟩
  -- what has been met when i items are done
  let met : Nat → (Key → Bool) → Prop := fun i S => ∀ k, S k = true ↔ ∃ j z, j < i ∧ z ∈ f j ∧ k = .inr z
  refine ⟨fun i m G => i ≤ xs.length ∧ m = xs.length - i ∧ ∃ S n, G D = some (SetWO P w D S n) ∧ met i S ∧ n ≤ 100 * i ∧ Evl.Ex H G, ⟨xs.length, Nat.zero_le _, rfl, fun _ => false, 0, upd_same, (fun k => ⟨(fun z => nomatch z), fun ⟨j, z, lt, _⟩ => absurd lt (Nat.not_lt_zero j)⟩), Nat.zero_le _, Evl.Ex.new hD⟩, ?_⟩
  rintro i m G ⟨hi, rfl, S, n, gD, hm, hn, eG⟩
  by_cases lt : i < xs.length
  · have xi : xs[i]? = some xs[i] := List.getElem?_eq_getElem lt
    obtain ⟨p, C, dx, fs, a, ex, hp, c, no, lk, ha, hf⟩ := each i xs[i] xi
    refine .inr ⟨⟨xs, xs[i], Evl.sq_of (eG _ _ hl), xi⟩, fun G' => i + 1 ≤ xs.length ∧ ∃ S n, G' D = some (SetWO P w D S n) ∧ met (i + 1) S ∧ n ≤ 100 * (i + 1) ∧ Evl.Ex H G', fun G' h => ⟨xs.length - (i + 1), by omega, h.1, rfl, h.2⟩, fun x G' y => ?_⟩
    obtain ⟨rfl, y⟩ := y
    obtain rfl : x = xs[i] := Option.some.inj ((y xs (Evl.sq_of (eG _ _ hl))).symm.trans xi)
    rw [ex]
    refine ⟨rfl, .ref p, rfl, p, C, dx, fs, .ref a, rfl, eG _ _ hp, c, no, lk, a, rfl, ⟨_, Evl.st_of (eG _ _ ha)⟩, ?_⟩
    let mets : Nat → (Key → Bool) → Prop := fun j S => ∀ k, S k = true ↔ (∃ j z, j < i ∧ z ∈ f j ∧ k = .inr z) ∨ ∃ z, z ∈ (f i).take j ∧ k = .inr z
    refine ⟨fun j k F => j ≤ (f i).length ∧ k = (f i).length - j ∧ ∃ S n, F D = some (SetWO P w D S n) ∧ mets j S ∧ n ≤ 100 * i + j ∧ Evl.Ex H F, ⟨(f i).length, Nat.zero_le _, rfl, S, n, gD, (fun k => by rw [hm k]; simp), by omega, eG⟩, ?_⟩
    rintro j k F ⟨hj, rfl, S, n, fD, hs, hn2, eF⟩
    have hT : SqT K F a ((f i).map V.str) := Evl.st_of (eF _ _ ha)
    have hz : ((f i).map V.str).length = (f i).length := List.length_map ..
    by_cases ltj : j < (f i).length
    · have yj : ((f i).map V.str)[j]? = some (V.str (f i)[j]) := by rw [List.getElem?_map, List.getElem?_eq_getElem ltj]; rfl
      refine .inr ⟨⟨_, _, hT, yj⟩, fun F' => j + 1 ≤ (f i).length ∧ ∃ S n, F' D = some (SetWO P w D S n) ∧ mets (j + 1) S ∧ n ≤ 100 * i + (j + 1) ∧ Evl.Ex H F', fun F' h => ⟨(f i).length - (j + 1), by omega, h.1, rfl, h.2⟩, fun y F' yy => ?_⟩
      obtain ⟨rfl, yy⟩ := yy
      obtain rfl : y = V.str (f i)[j] := Option.some.inj ((yy _ hT).symm.trans yj)
      refine ⟨rfl, .str (f i)[j], rfl, .inr (f i)[j], S, n, rfl, fD, by rw [show scanBound = 4096 from rfl]; omega, by omega, _, _, upd_same, fun k => ?_, by split <;> omega, Evl.Ex.mut eF hD⟩
      rw [Bool.or_eq_true, decide_eq_true_eq, hs k, List.take_succ, List.getElem?_eq_getElem ltj]
      constructor
      · rintro ((h | ⟨z, hz, e⟩) | e)
        · exact .inl h
        · exact .inr ⟨z, List.mem_append_left _ hz, e⟩
        · exact .inr ⟨_, List.mem_append_right _ (List.mem_singleton.mpr rfl), e⟩
      · rintro (h | ⟨z, hz, e⟩)
        · exact .inl (.inl h)
        · rcases List.mem_append.mp hz with hz | hz
          · exact .inl (.inr ⟨z, hz, e⟩)
          · have : z = (f i)[j] := by simpa using hz
            exact .inr (by rw [e, this])
    · obtain rfl : j = (f i).length := by omega
      refine .inl ⟨⟨_, hT, by rw [hz]; exact Nat.le_refl _⟩, lt, S, n, fD, fun k => ?_, by omega, eF⟩
      rw [hs k, List.take_length]
      constructor
      · rintro (⟨j, z, h1, h2⟩ | ⟨z, h1, h2⟩)
        · exact ⟨j, z, by omega, h2⟩
        · exact ⟨i, z, by omega, h1, h2⟩
      · rintro ⟨j, z, h1, h2, h3⟩
        by_cases e : j = i
        · subst e
          exact .inr ⟨z, h2, h3⟩
        · exact .inl ⟨j, z, by omega, h2, h3⟩
  · obtain rfl : i = xs.length := by omega
    exact .inl ⟨⟨xs, Evl.sq_of (eG _ _ hl), Nat.le_refl _⟩, q D S n G hD eG gD hm (by omega)⟩
theorem leaves_len : ∀ t : Tr, t.leaves.length ≤ 2 ^ t.depth
  | .leaf _ => Nat.le_refl _
  | .node s a b => by
    have h1 := leaves_len a
    have h2 := leaves_len b
    have m1 : 2 ^ a.depth ≤ 2 ^ max a.depth b.depth := Nat.pow_le_pow_right (by omega) (Nat.le_max_left ..)
    have m2 : 2 ^ b.depth ≤ 2 ^ max a.depth b.depth := Nat.pow_le_pow_right (by omega) (Nat.le_max_right ..)
    show (a.leaves ++ b.leaves).length ≤ 2 ^ (1 + max a.depth b.depth)
    rw [List.length_append, Nat.pow_add, Nat.pow_one]
    omega
theorem sub_len {α : Type} [DecidableEq α] : ∀ {l m : List α}, l.Nodup → (∀ x ∈ l, x ∈ m) → l.length ≤ m.length
  | [], _, _, _ => Nat.zero_le _
  | x :: l, m, hn, hs => by
    obtain ⟨h1, h2⟩ := List.nodup_cons.mp hn
    have hx := hs x (List.mem_cons_self ..)
    have ih := sub_len (m := m.erase x) h2 fun y hy => (List.mem_erase_of_ne (fun e => h1 (by rw [← e]; exact hy))).2 (hs y (List.mem_cons_of_mem _ hy))
    have e := List.length_erase_of_mem hx
    have e2 : 0 < m.length := List.length_pos_of_mem hx
    rw [List.length_cons]
    omega
theorem lands_len {t : Tr} {ys : List Str} (L : Lands t ys) (hd : t.depth ≤ 2) : ys.length ≤ 4 := by
  have h1 : ys.length ≤ t.leaves.length := sub_len L.nd fun z hz => (L.mem z).1 hz
  have h2 := leaves_len t
  have h3 : 2 ^ t.depth ≤ 2 ^ 2 := Nat.pow_le_pow_right (by omega) hd
  omega
def spLandsOf (r : RC) : Sp := fun vs H Q _ => ∃ (l : Addr) (x y : V) (a b : Tr), vs = [.ref l] ∧ H l = some (.lst [x, y]) ∧ RegAt r H a x ∧ RegAt r H b y ∧ a.depth ≤ 2 ∧ b.depth ≤ 2 ∧
  ∀ p ys H', Evl.Ex H H' → H' p = some (.tup (ys.map V.str)) → (∀ s, Lands (.node s a b) ys) → Q (.ref p) H'
theorem scLandsOf : FnScope ["regions", "region", "name"] ["regions"] (defScope sLandsOf) := ⟨rfl, rfl, rfl, by decide +kernel, rfl, by decide +kernel, by decide +kernel⟩
theorem ok_landsof {f : Addr} {fd : FuncData} {k : Nat} (X : Tx mg) (T : RgK K r) (F : Fun K "lands_of" "lands_of" sLandsOf f fd) : FnOk P w K mg base CX0 (k + 1) f fd ["regions"] (spLandsOf r) := by
  refine F.ok scLandsOf (fun vs H Q E h => ?_) (fun cdv A outer s H vs Q E hr h => ?_)
  · obtain ⟨l, x, y, a, b, rfl, _⟩ := h
    rfl
  · obtain ⟨l, x, y, a, b, rfl, hl, ha, hb, da, db, q⟩ := h
    have nd := scLandsOf.nd
    refine ⟨_, pss_one (ps_ret (pe_callTy call_tuple_of (by rfl) X.tuple (by decide +kernel) (pa_cons (pe_callB (cr_sortedW rfl) (by rfl) X.srt (by decide +kernel) (pa_cons
      (pe_sc2 (own := [("region", 1), ("name", 2)]) (vj := [2]) (g := gName 1) (gj := gName 2) (wj := iTup K (tFld K (tVar 1) "lands")) rfl nd (pi_list (pv 0)) (blkOk_by (N := ["regions", "region", "name"]) (sc := defScope sLandsOf) (by decide +kernel)) (by decide)
        (fun _ _ _ _ _ => pg_name (i := 1) nd rfl (Or.inl rfl)) (fun _ _ _ _ _ => pi_tup (pe_fld (pv 1) rfl)) (fun _ _ _ _ _ => pg_name (i := 2) nd rfl (Or.inl rfl)) (fun _ _ _ _ _ => pv 2)) pa_nil)) pa_nil))), ?_⟩
    have seeL : ∀ {t : Tr} {v : V}, RegAt r H t v → t.depth ≤ 2 → ∃ ys, Lands t ys ∧ ∃ p C dx fs a, v = V.ref p ∧ H p = some (.ins C dx fs) ∧ Cls K C ∧ NoAttr K C "lands" ∧ fs.lookup (Str.ofString "lands") = some (.ref a) ∧ H a = some (.tup (ys.map V.str)) ∧ ys.length ≤ 100 := fun {t v} h hd => by
      obtain ⟨p, dx, fs, rfl, S⟩ := h.see
      obtain ⟨l, ys, h1, h2, h3⟩ := S.ld
      have c := isRg_at r t
      have := lands_len h3 hd
      exact ⟨ys, h3, p, _, dx, fs, l, rfl, S.at_, T.cl _ c, T.na _ c _ (by decide), h1, h2, by omega⟩
    obtain ⟨ya, La, wa⟩ := seeL ha da
    obtain ⟨yb, Lb, wb⟩ := seeL hb db
    delta tRet tCB tCons
    dsimp only
    refine sc2_lands (xs := [x, y]) (f := fun i => if i = 0 then ya else yb) hl (by show 2 ≤ 4; decide) (fun i v hi => ?_) fun D S n G hD eG gD hS hn => ?_
    · match i, hi with
      | 0, hi =>
        obtain rfl := Option.some.inj hi
        exact wa
      | 1, hi =>
        obtain rfl := Option.some.inj hi
        exact wb
      | i + 2, hi => simp at hi
    · refine ⟨D, S, n, rfl, gD, fun k h => ?_, hn, fun ys p srt nd' mem len np => ?_⟩
      · obtain ⟨i, z, _, _, e⟩ := (hS k).1 h
        exact ⟨z, e⟩
      · have e2 := Evl.Ex.new (o := .lst (ys.map V.str)) np
        refine ⟨p, ys.map V.str, rfl, .inl ⟨Evl.sq_of upd_same, fun t nt => ?_⟩⟩
        refine q t ys _ ((eG.trans e2).trans (Evl.Ex.new nt)) upd_same fun s => ⟨srt, nd', fun z => ?_⟩
        rw [mem z, hS]
        show _ ↔ z ∈ a.leaves ++ b.leaves
        rw [List.mem_append, ← La.mem, ← Lb.mem]
        constructor
        · rintro ⟨i, z', lt, hz, e⟩
          obtain rfl := Sum.inr.inj e
          match i, lt, hz with
          | 0, _, hz => exact .inl hz
          | 1, _, hz => exact .inr hz
          | i + 2, lt, _ => exact absurd lt (by simp)
        · rintro (h | h)
          · exact ⟨0, z, (by show 0 < 2; decide), h, rfl⟩
          · exact ⟨1, z, (by show 1 < 2; decide), h, rfl⟩
end
end K04
namespace K04
open PySem PySem.Spec PyProof.Rows L2 BW
abbrev cMade (j : Nat) : Stmt := inClass (topS 19) j
section
variable {P : Program} {w : World} {K : PySem.W.Frag} {mg : Str → Option Value} {base : Heap} {r : RC} {CB : Addr}
def spMkL (r : RC) (CB : Addr) : Sp := fun vs H Q E => ∃ (p dx : Addr) (v : V) (U : String), vs = [.ref p, v] ∧ H p = some (.ins r.L dx []) ∧ Knd H v U ∧ ((∃ z, v = .str z ∧ nameB z = true ∧ ∀ H', Kp p H H' → RegAt r H' (.leaf z) (.ref p) → Q .non H') ∨ (isName v = false ∧ Raised CB "part" (.str "name") H E))
theorem scMkL : FnScope ["self", "name"] ["self", "name"] (defScope (cLand 0)) := ⟨rfl, rfl, rfl, by decide +kernel, rfl, by decide +kernel, by decide +kernel⟩
theorem ok_mkL {f fN : Addr} {fd fdN : FuncData} {k : Nat} (T : RgK K r) (bad : E1 P w K mg base "BadRegion" "part" CB) (D : Df P w K mg base (k + 2) "is_name" ["value"] (spK isName) fN fdN) (F : Fun K "__init__" "Land.__init__" (cLand 0) f fd) :
    FnOk P w K mg base (L2.CX P w) (k + 3) f fd ["self", "name"] (spMkL r CB) := by
  refine F.okX scMkL (fun vs H Q E h => ?_) (fun cdv A outer s H vs Q E hr h => ?_)
  · obtain ⟨p, dx, v, U, rfl, _⟩ := h
    rfl
  · obtain ⟨p, dx, v, U, rfl, hp, kd, q⟩ := h
    obtain ⟨fE, fdE, iC, tI, FI, bI, _⟩ := bad.made
    refine ⟨_, pss_cons (ps_if (pt_not (pt_val (pe_df D hr (pa_cons (pv 1) pa_nil)))) (pss_one (ps_raise rfl (takes_of rfl rfl rfl rfl) (pmk_oex bad.O iC tI FI (hr.mono (by omega)) (binds_of bI rfl) .nil pass0 rfl bad.g (pa_cons pe_str pa_nil)))) pss_nil)
      (pss_cons (ps_fld (pv 0) (pv 1) rfl) (pss_cons (ps_fld (pv 0) (pe_tup (pa_cons (pv 1) pa_nil)) rfl) (pss_one (ps_fld (pv 0) pe_int rfl)))), ?_⟩
    refine Evl.q_when (b := !isName v) (Evl.et_not (Evl.et_B (Evl.ev_call (Evl.ea_cons (Evl.ev_var rfl) Evl.ea_nil) (sp_k kd)))) (fun hb H1 e1 => ?_) (fun hb H1 e1 => ?_)
    · rcases q with ⟨z, rfl, hz, _⟩ | ⟨_, q⟩
      · have hb' : (!nameB z) = true := hb
        rw [hz] at hb'
        cases hb'
      · exact rd_mk1 bad.O bad.no (Evl.ea_cons Evl.ev_c Evl.ea_nil) (q.ex e1)
    · rcases q with ⟨z, rfl, hz, q⟩ | ⟨hn, _⟩
      · have c := T.cl _ (.inl rfl : IsRg r r.L)
        have no : ∀ f ∈ attrs5, NoAttr K r.L f := T.na _ (.inl rfl)
        refine ⟨.str z, rfl, .ref p, rfl, p, r.L, dx, [], rfl, e1 _ _ hp, c, no _ (by decide), (by decide), ?_⟩
        refine ⟨.str z, rfl, (by show 1 ≤ sizeLine; decide), fun l nl => ⟨.ref p, rfl, p, r.L, dx, [("name", .str z)], rfl, ?_, c, no _ (by decide), (by show 1 < 1000; decide), ?_⟩⟩
        · rw [upd_ne (ne_of_none upd_same nl)]
          exact upd_same
        have np : p ≠ l := ne_of_none upd_same nl
        refine ⟨.ref p, rfl, p, r.L, dx, [("name", .str z), ("lands", .ref l)], rfl, upd_same, c, no _ (by decide), (by show 2 < 1000; decide), ?_⟩
        refine q _ (fun b o nb hb => ?_) ⟨p, dx, l, rfl, upd_same, ?_⟩
        · have hb1 := e1 _ _ hb
          have nbl : b ≠ l := fun e => by
            rw [e] at hb1 nb
            rw [upd_ne nb, hb1] at nl
            cases nl
          rw [upd_ne nb, upd_ne nb, upd_ne nbl, upd_ne nb]
          exact hb1
        · rw [upd_ne np.symm, upd_ne np.symm]
          exact upd_same
      · rw [hn] at hb
        cases hb
/-- Land(v) -/
def MkL (r : RC) (CB : Addr) (v : V) (H : Hp) (Q : VK) (E : XK) : Prop := (∃ z, v = .str z ∧ nameB z = true ∧ ∀ p H', Evl.Ex H H' → RegAt r H' (.leaf z) p → Q p H') ∨ (isName v = false ∧ (∃ U, Knd H v U) ∧ Raised CB "part" (.str "name") H E)
theorem rd_mkL {E : XK} {ta : TA} {σ : L2.St} {H : Hp} {v : V} {Q : VK} (ha : Evl.EvA ta σ H [v]) (q : MkL r CB v H Q E) (hz : ∀ z, v = .str z → z.length ≤ 1000) : tMake r.L (spMkL r CB) [] E ta σ H Q := ha H (Evl.Ex.refl H) _ fun H1 e1 x dx nx ndx ne => by
  have eN : Evl.Ex H1 (upd (upd H1 dx (.own x)) x (.ins r.L dx [])) := fun b o hb => by
    rw [upd_ne (ne_of_none hb nx), upd_ne (ne_of_none hb ndx)]
    exact hb
  rcases q with ⟨z, rfl, hn, q⟩ | ⟨hn, ⟨U, kd⟩, q⟩
  · refine ⟨x, dx, .str z, "str", rfl, upd_same, .str (hz z rfl), .inl ⟨z, rfl, hn, fun H' kp hR => ⟨rfl, q (.ref x) H' (fun b o hb => ?_) hR⟩⟩⟩
    have hb1 := e1 _ _ hb
    exact kp b o (ne_of_none hb1 nx) (eN _ _ hb1)
  · exact ⟨x, dx, v, U, rfl, upd_same, (kd.mono e1).mono eN, .inr ⟨hn, q.ex (e1.trans eN)⟩⟩
/-- the class Region itself -/
structure RgB (K : PySem.W.Frag) (mg : Str → Option Value) (g : Addr) : Prop where
  nm : mg "Region" = some (.ref g)
  rd : ∃ mc u, ClX.CRead K g mc ∧ ClX.CVal K g mc "MOST_DEPTH" (.int 2) u
theorem ev_most {g : Addr} (B : RgB K mg g) {σ : L2.St} {H : Hp} : Evl.Ev (ClX.tCVal K (tC (.ref g)) "MOST_DEPTH") σ H (.int 2) := fun H1 e Q q => by
  obtain ⟨mc, u, c, v⟩ := B.rd
  exact ⟨g, mc, .int 2, u, rfl, c, v, q H1 (Evl.Ex.refl H1)⟩
def spMkM (r : RC) (CB : Addr) (s : Sg) : Sp := fun vs H Q E => ∃ (p dx : Addr) (x y : V) (o o2 : Option Tr), vs = [.ref p, x, y] ∧ H p = some (.ins (r.of s) dx []) ∧ RVal r H x o ∧ RVal r H y o2 ∧ (∀ t, o = some t → t.depth ≤ 2) ∧ (∀ t, o2 = some t → t.depth ≤ 2) ∧
  ((o = none ∧ Raised CB "part" (.str "one") H E) ∨ (o.isSome = true ∧ o2 = none ∧ Raised CB "part" (.str "other") H E) ∨ (∃ a b, o = some a ∧ o2 = some b ∧ ((2 < (Tr.node s a b).depth ∧ Raised CB "part" (.str "depth") H E) ∨ ((Tr.node s a b).depth ≤ 2 ∧ ∀ H', Kp p H H' → RegAt r H' (.node s a b) (.ref p) → Q .non H'))))
theorem scMkM : FnScope ["self", "one", "other", "depth"] ["self", "one", "other"] (defScope (cMade 0)) := ⟨rfl, rfl, rfl, by decide +kernel, rfl, by decide +kernel, by decide +kernel⟩
theorem ok_mkM {f fR fL g : Addr} {fd fdR fdL : FuncData} {k : Nat} {s : Sg} (X : Tx mg) (T : RgK K r) (B : RgB K mg g) (bad : E1 P w K mg base "BadRegion" "part" CB) (RR : FnOk P w K mg base (L2.CX P w) (k + 3) fR fdR ["value", "part"] (spReqR r CB)) (bR : Binds K fdR ["value", "part"] []) (gR : mg "require_region" = some (.ref fR)) (kR : PySem.W.keepIn K (.ref fR) = true)
    (L : Df P w K mg base (k + 3) "lands_of" ["regions"] (spLandsOf r) fL fdL) (F : Fun K "__init__" "Made.__init__" (cMade 0) f fd) : FnOk P w K mg base (L2.CX P w) (k + 4) f fd ["self", "one", "other"] (spMkM r CB s) := by
  refine F.okX scMkM (fun vs H Q E h => ?_) (fun cdv A outer s' H vs Q E hr h => ?_)
  · obtain ⟨p, dx, x, y, o, o2, rfl, _⟩ := h
    rfl
  · obtain ⟨p, dx, x, y, o, o2, rfl, hp, hx, hy, dx2, dy2, q⟩ := h
    obtain ⟨fE, fdE, iC, tI, FI, bI, _⟩ := bad.made
    have nd := scMkM.nd
    refine ⟨_, pss_cons (ps_expr (pe_call RR hr (by rfl) gR kR bR .nil (passes_call (takes_of rfl rfl rfl rfl) (fun _ _ _ _ h => h)) (pa_cons (pv 1) (pa_cons pe_str pa_nil))))
      (pss_cons (ps_expr (pe_call RR hr (by rfl) gR kR bR .nil (passes_call (takes_of rfl rfl rfl rfl) (fun _ _ _ _ h => h)) (pa_cons (pv 2) (pa_cons pe_str pa_nil))))
      (pss_cons (ps_set (i := 3) nd rfl (.inl rfl) (pe_op op_add pe_int (pe_callB (call_max2 rfl) (by rfl) X.mx (by decide +kernel) (pa_cons (pe_fld (pv 1) rfl) (pa_cons (pe_fld (pv 2) rfl) pa_nil)))))
      (pss_cons (ps_if (pt_cmpR op_gt (pv 3) (ClX.pe_cval (pe_glob (v := .ref g) (by rfl) B.nm rfl)) (nomark _)) (pss_one (ps_raise rfl (takes_of rfl rfl rfl rfl) (pmk_oex bad.O iC tI FI (hr.mono (by omega)) (binds_of bI rfl) .nil pass0 rfl bad.g (pa_cons pe_str pa_nil)))) pss_nil)
      (pss_cons (ps_fld (pv 0) (pv 1) rfl) (pss_cons (ps_fld (pv 0) (pv 2) rfl) (pss_cons (ps_fld (pv 0) (pe_df L hr (pa_cons (pe_lst (pa_cons (pv 1) (pa_cons (pv 2) pa_nil))) pa_nil)) rfl) (pss_one (ps_fld (pv 0) (pv 3) rfl)))))))), ?_⟩
    rcases q with ⟨rfl, q⟩ | ⟨hs, rfl, q⟩ | ⟨a, b, rfl, rfl, q⟩
    · exact ⟨x, rfl, x, "one", none, rfl, hx, .inr ⟨rfl, q⟩⟩
    · obtain ⟨a, rfl⟩ := Option.isSome_iff_exists.mp hs
      exact ⟨x, rfl, x, "one", some a, rfl, hx, .inl ⟨a, rfl, fun H1 e1 => ⟨y, rfl, y, "other", none, rfl, hy.mono e1, .inr ⟨rfl, q.ex e1⟩⟩⟩⟩
    cases hx with
    | reg ha =>
    cases hy with
    | reg hb =>
    refine ⟨x, rfl, x, "one", some a, rfl, .reg ha, .inl ⟨a, rfl, fun H1 e1 => ⟨y, rfl, y, "other", some b, rfl, .reg (hb.mono e1), .inl ⟨b, rfl, fun H2 e2 => ?_⟩⟩⟩⟩
    have e12 := e1.trans e2
    have dep : ∀ {t : Tr} {v : V} {i : Nat} {σ : L2.St}, RegAt r H t v → σ[i]? = some (some v) → Evl.Ev (tFld K (tVar i) "depth") σ H2 (.int (t.depth : Nat)) := fun {t v i σ} h hs => by
      obtain ⟨p', dx', fs, rfl, S⟩ := (h.mono e12).see
      exact ev_fld (Evl.ev_var hs) S.at_ (T.cl _ (isRg_at r t)) (T.na _ (isRg_at r t) _ (by decide)) S.dp
    dsimp only
    refine Evl.q_asg (v := .int ((Tr.node s a b).depth : Nat)) (Evl.ev_is (Evl.ev_op Evl.ev_c (Evl.ev_cb (z := .int (if ((b.depth : Nat) : Int) > ((a.depth : Nat) : Int) then ((b.depth : Nat) : Int) else ((a.depth : Nat) : Int))) (Evl.ea_cons (dep (i := 1) (σ := [some (.ref p), some x, some y, none]) ha rfl) (Evl.ea_cons (dep (i := 2) (σ := [some (.ref p), some x, some y, none]) hb rfl) Evl.ea_nil)) ?rc) Evl.rv_I0) ?_) fun H3 e3 => ?_
    case rc =>
      exact fun H3 e3 Q q => ⟨_, _, rfl, q H3 (Evl.Ex.refl H3)⟩
    · show V.int (1 + _) = V.int ((1 + max a.depth b.depth : Nat) : Int)
      congr 1
      split <;> omega
    have e13 := e12.trans e3
    refine Evl.q_when (b := decide ((2 : Int) < (((Tr.node s a b).depth : Nat) : Int))) (Evl.et_test (Evl.ev_op (Evl.ev_var rfl) (ev_most B) Evl.rv_I0)) (fun hd H4 e4 => ?_) (fun hd H4 e4 => ?_)
    · have hd' : (2 : Int) < (((Tr.node s a b).depth : Nat) : Int) := of_decide_eq_true hd
      rcases q with ⟨_, q⟩ | ⟨le, _⟩
      · exact rd_mk1 bad.O bad.no (Evl.ea_cons Evl.ev_c Evl.ea_nil) (q.ex (e13.trans e4))
      · omega
    · have hd' : ¬ (2 : Int) < (((Tr.node s a b).depth : Nat) : Int) := of_decide_eq_false hd
      rcases q with ⟨lt, _⟩ | ⟨le, q⟩
      · omega
      have e14 := e13.trans e4
      have isC : IsRg r (r.of s) := isRg_at r (.node s a b)
      have c := T.cl _ isC
      have no : ∀ f ∈ attrs5, NoAttr K (r.of s) f := T.na _ isC
      have ha4 := ha.mono e14
      have hb4 := hb.mono e14
      -- the parts
      refine ⟨x, rfl, .ref p, rfl, p, r.of s, dx, [], rfl, e14 _ _ hp, c, no _ (by decide), (by show 0 < 1000; decide), ?_⟩
      refine ⟨y, rfl, .ref p, rfl, p, r.of s, dx, [("one", x)], rfl, upd_same, c, no _ (by decide), (by show 1 < 1000; decide), ?_⟩
      have hp4 := e14 _ _ hp
      have kB : ∀ {o1 o2 : HO} (b : Addr) (o : HO), b ≠ p → H4 b = some o → upd (upd H4 p o1) p o2 b = some o := fun {o1 o2} b o nb hb => by
        rw [upd_ne nb, upd_ne nb]
        exact hb
      have da := dx2 a rfl
      have db := dy2 b rfl
      refine ⟨x, rfl, y, rfl, (by show 2 ≤ sizeLine; decide), fun l nl => ?_⟩
      have eL := Evl.Ex.new (o := .lst [x, y]) nl
      refine ⟨l, x, y, a, b, rfl, upd_same, (ha4.but hp4 kB).mono eL, (hb4.but hp4 kB).mono eL, da, db, fun t ys H5 e5 ht hL => ?_⟩
      have hp5 : H5 p = some (.ins (r.of s) dx [("one", x), ("other", y)]) := e5 _ _ (eL _ _ upd_same)
      refine ⟨.ref p, rfl, p, r.of s, dx, [("one", x), ("other", y)], rfl, hp5, c, no _ (by decide), (by show 2 < 1000; decide), ?_⟩
      refine ⟨.int ((Tr.node s a b).depth : Nat), rfl, .ref p, rfl, p, r.of s, dx, [("one", x), ("other", y), ("lands", .ref t)], rfl, upd_same, c, no _ (by decide), (by show 3 < 1000; decide), ?_⟩
      have kF : ∀ {o1 o2 : HO} (b : Addr) (o : HO), b ≠ p → H4 b = some o → upd (upd H5 p o1) p o2 b = some o := fun {o1 o2} b o nb hb => by
        rw [upd_ne nb, upd_ne nb]
        exact e5 _ _ (eL _ _ (kB b o nb hb))
      have nt : t ≠ p := fun z => by
        rw [z, hp5] at ht
        cases ht
      refine q _ (fun b o nb hb => kF b o nb (e14 _ _ hb)) ⟨p, dx, x, y, t, ys, rfl, upd_same, ha4.but hp4 kF, hb4.but hp4 kF, ?_, hL s⟩
      rw [upd_ne nt, upd_ne nt]
      exact ht
/-- Sum(x, y), .. -/
def MkM (r : RC) (CB : Addr) (s : Sg) (o o2 : Option Tr) (H : Hp) (Q : VK) (E : XK) : Prop :=
  (o = none ∧ Raised CB "part" (.str "one") H E) ∨ (o.isSome = true ∧ o2 = none ∧ Raised CB "part" (.str "other") H E) ∨ (∃ a b, o = some a ∧ o2 = some b ∧ ((2 < (Tr.node s a b).depth ∧ Raised CB "part" (.str "depth") H E) ∨ ((Tr.node s a b).depth ≤ 2 ∧ ∀ p H', Evl.Ex H H' → RegAt r H' (.node s a b) p → Q p H')))
theorem rd_mkM {s : Sg} {E : XK} {ta : TA} {σ : L2.St} {H : Hp} {x y : V} {o o2 : Option Tr} {Q : VK} (ha : Evl.EvA ta σ H [x, y]) (hx : RVal r H x o) (hy : RVal r H y o2) (dx : ∀ t, o = some t → t.depth ≤ 2) (dy : ∀ t, o2 = some t → t.depth ≤ 2) (q : MkM r CB s o o2 H Q E) : tMake (r.of s) (spMkM r CB s) [] E ta σ H Q :=
  ha H (Evl.Ex.refl H) _ fun H1 e1 p d np nd ne => by
    have eN : Evl.Ex H1 (upd (upd H1 d (.own p)) p (.ins (r.of s) d [])) := fun b o hb => by
      rw [upd_ne (ne_of_none hb np), upd_ne (ne_of_none hb nd)]
      exact hb
    have e := e1.trans eN
    refine ⟨p, d, x, y, o, o2, rfl, upd_same, hx.mono e, hy.mono e, dx, dy, ?_⟩
    rcases q with ⟨h1, q⟩ | ⟨h1, h2, q⟩ | ⟨a, b, h1, h2, ⟨h3, q⟩ | ⟨h3, q⟩⟩
    · exact .inl ⟨h1, q.ex e⟩
    · exact .inr (.inl ⟨h1, h2, q.ex e⟩)
    · exact .inr (.inr ⟨a, b, h1, h2, .inl ⟨h3, q.ex e⟩⟩)
    · refine .inr (.inr ⟨a, b, h1, h2, .inr ⟨h3, fun H' kp hR => ⟨rfl, q (.ref p) H' (fun c u hc => ?_) hR⟩⟩⟩)
      have hc1 := e1 _ _ hc
      exact kp c u (ne_of_none hc1 np) (eN _ _ hc1)
/-- how the classes are made -/
structure Mks (P : Program) (w : World) (K : PySem.W.Frag) (mg : Str → Option Value) (base : Heap) (r : RC) (CB : Addr) (kL kM : Nat) : Prop where
  L : ∃ f fd, Mk K r.L f ∧ FnOk P w K mg base (L2.CX P w) kL f fd ["self", "name"] (spMkL r CB) ∧ Binds K fd ["self", "name"] []
  M : ∀ s, ∃ f fd, Mk K (r.of s) f ∧ FnOk P w K mg base (L2.CX P w) kM f fd ["self", "one", "other"] (spMkM r CB s) ∧ Binds K fd ["self", "one", "other"] []
abbrev sMadeOf : Stmt := topS 26
theorem scMadeOf : FnScope ["sign", "one", "other"] ["sign", "one", "other"] (defScope sMadeOf) := ⟨rfl, rfl, rfl, by decide +kernel, rfl, by decide +kernel, by decide +kernel⟩
def spMadeOf (r : RC) (CB : Addr) : Sp := fun vs H Q E => ∃ (s : Sg) (x y : V) (a b : Tr), vs = [.str s.str, x, y] ∧ RegAt r H a x ∧ RegAt r H b y ∧ (Tr.node s a b).depth ≤ 2 ∧ ∀ p H', Evl.Ex H H' → RegAt r H' (.node s a b) p → Q p H'
theorem ok_madeof {f : Addr} {fd : FuncData} {k : Nat} (G : RgG mg r) (M : Mks P w K mg base r CB k k) (F : Fun K "made_of" "made_of" sMadeOf f fd) : FnOk P w K mg base (L2.CX P w) (k + 2) f fd ["sign", "one", "other"] (spMadeOf r CB) := by
  refine F.okX scMadeOf (fun vs H Q E h => ?_) (fun cdv A outer s H vs Q E hr h => ?_)
  · obtain ⟨s, x, y, a, b, rfl, _⟩ := h
    rfl
  · obtain ⟨u, x, y, a, b, rfl, ha, hb, hd, q⟩ := h
    obtain ⟨fP, dP, mP, oP, bP⟩ := M.M .plus
    obtain ⟨fS, dS, mS, oS, bS⟩ := M.M .star
    obtain ⟨fM, dM, mM, oM, bM⟩ := M.M .minus
    refine ⟨_, pss_cons (ps_if (pt_cmpR op_eq (pv 0) pe_str (nomark _)) (pss_one (ps_ret (pe_make mP oP hr (by rfl) G.gS bP .nil (passes_call (takes_of rfl rfl rfl rfl) (fun _ _ _ _ h => h)) (pa_cons (pv 1) (pa_cons (pv 2) pa_nil))))) pss_nil)
      (pss_cons (ps_if (pt_cmpR op_eq (pv 0) pe_str (nomark _)) (pss_one (ps_ret (pe_make mS oS hr (by rfl) G.gC bS .nil (passes_call (takes_of rfl rfl rfl rfl) (fun _ _ _ _ h => h)) (pa_cons (pv 1) (pa_cons (pv 2) pa_nil))))) pss_nil)
      (pss_one (ps_ret (pe_make mM oM hr (by rfl) G.gR bM .nil (passes_call (takes_of rfl rfl rfl rfl) (fun _ _ _ _ h => h)) (pa_cons (pv 1) (pa_cons (pv 2) pa_nil)))))), ?_⟩
    have da : a.depth ≤ 2 := by
      have h : 1 + max a.depth b.depth ≤ 2 := hd
      omega
    have db : b.depth ≤ 2 := by
      have h : 1 + max a.depth b.depth ≤ 2 := hd
      omega
    have go : ∀ {H1 : Hp}, Evl.Ex H H1 → tMake (r.of u) (spMkM r CB u) [] E (tCons (tVar 1) (tCons (tVar 2) tNil)) [some (V.str u.str), some x, some y] H1 Q := fun {H1} e1 =>
      rd_mkM (Evl.ea_cons (Evl.ev_var rfl) (Evl.ea_cons (Evl.ev_var rfl) Evl.ea_nil)) (.reg (ha.mono e1)) (.reg (hb.mono e1)) (fun t h => by rw [← Option.some.inj h]; exact da) (fun t h => by rw [← Option.some.inj h]; exact db) (.inr (.inr ⟨a, b, rfl, rfl, .inr ⟨hd, fun p H' e hR => q p H' (e1.trans e) hR⟩⟩))
    cases u with
    | plus => exact Evl.q_when (b := true) (Evl.et_is (Evl.et_test (Evl.ev_op (Evl.ev_var rfl) Evl.ev_c (Evl.rv_eq rfl))) (by decide)) (fun _ H1 e1 => go e1) (fun z => nomatch z)
    | star => exact Evl.q_when (b := false) (Evl.et_is (Evl.et_test (Evl.ev_op (Evl.ev_var rfl) Evl.ev_c (Evl.rv_eq rfl))) (by decide)) (fun z => nomatch z) fun _ H1 e1 => Evl.q_when (b := true) (Evl.et_is (Evl.et_test (Evl.ev_op (Evl.ev_var rfl) Evl.ev_c (Evl.rv_eq rfl))) (by decide)) (fun _ H2 e2 => go (e1.trans e2)) (fun z => nomatch z)
    | minus => exact Evl.q_when (b := false) (Evl.et_is (Evl.et_test (Evl.ev_op (Evl.ev_var rfl) Evl.ev_c (Evl.rv_eq rfl))) (by decide)) (fun z => nomatch z) fun _ H1 e1 => Evl.q_when (b := false) (Evl.et_is (Evl.et_test (Evl.ev_op (Evl.ev_var rfl) Evl.ev_c (Evl.rv_eq rfl))) (by decide)) (fun z => nomatch z) fun _ H2 e2 => go (e1.trans e2)
end
end K04
namespace K04
open PySem PySem.Spec PyProof.Rows L2 BW
abbrev sFrom : Stmt := topS 27
/-- the sign that a text is -/
def sgOf (z : Str) : Option Sg := if z = "+" then some .plus else if z = "*" then some .star else if z = "-" then some .minus else none
theorem sgOf_str {z : Str} {s : Sg} (h : sgOf z = some s) : z = s.str := by
  unfold sgOf at h
  split at h
  · obtain rfl := Option.some.inj h
    assumption
  · split at h
    · obtain rfl := Option.some.inj h
      assumption
    · split at h
      · obtain rfl := Option.some.inj h
        assumption
      · cases h
theorem sgOf_sg (s : Sg) : sgOf s.str = some s := by cases s <;> decide +kernel
theorem sgOf_in (z : Str) : decide (z ∈ [(Str.ofString "+"), Str.ofString "*", Str.ofString "-"]) = (sgOf z).isSome := by
  by_cases h1 : z = Str.ofString "+"
  · subst h1
    decide +kernel
  · by_cases h2 : z = Str.ofString "*"
    · subst h2
      decide +kernel
    · by_cases h3 : z = Str.ofString "-"
      · subst h3
        decide +kernel
      · have e : sgOf z = none := by
          unfold sgOf
          rw [if_neg h1, if_neg h2, if_neg h3]
        rw [e]
        simp [h1, h2, h3]
theorem sg_noname {z : Str} {s : Sg} (h : sgOf z = some s) : nameB z = false := by
  rw [sgOf_str h]
  cases s <;> decide +kernel
/-- the reading: m levels more, from the i-th item; where it stops, or the tree and what is behind -/
def prs (xs : List Str) : Nat → Nat → Nat ⊕ (Tr × Nat)
  | 0, i => match xs[i]? with
    | none => .inl i
    | some z => if nameB z then .inr (.leaf z, i + 1) else .inl i
  | m + 1, i => match xs[i]? with
    | none => .inl i
    | some z => match sgOf z with
      | none => if nameB z then .inr (.leaf z, i + 1) else .inl i
      | some s => match prs xs m (i + 1) with
        | .inl e => .inl e
        | .inr (a, j) => match prs xs m j with
          | .inl e => .inl e
          | .inr (b, k) => .inr (.node s a b, k)
theorem prs_sg {xs : List Str} {n i : Nat} {z : Str} {s : Sg} (hz : xs[i]? = some z) (hs : sgOf z = some s) : prs xs (n + 1) i = match prs xs n (i + 1) with
    | .inl e => .inl e
    | .inr (a, j) => match prs xs n j with
      | .inl e => .inl e
      | .inr (b, k) => .inr (.node s a b, k) := by
  show (match xs[i]? with | none => _ | some z => match sgOf z with | none => _ | some s => _) = _
  rw [hz]
  dsimp only
  rw [hs]
theorem prs_nm {xs : List Str} {m i : Nat} {z : Str} (hz : xs[i]? = some z) (hs : ((sgOf z).isSome && decide (0 < m)) = false) : prs xs m i = if nameB z then .inr (.leaf z, i + 1) else .inl i := by
  cases m with
  | zero =>
    show (match xs[i]? with | none => _ | some z => _) = _
    rw [hz]
  | succ n =>
    have e : sgOf z = none := by
      cases h : sgOf z with
      | none => rfl
      | some s =>
        rw [h] at hs
        simp at hs
    show (match xs[i]? with | none => _ | some z => match sgOf z with | none => _ | some s => _) = _
    rw [hz]
    dsimp only
    rw [e]
theorem prs_depth {xs : List Str} : ∀ {m i : Nat} {t : Tr} {j : Nat}, prs xs m i = .inr (t, j) → t.depth ≤ m := by
  intro m
  induction m with
  | zero =>
    intro i t j h
    unfold prs at h
    split at h
    · cases h
    · split at h
      · cases h
        exact Nat.le_refl 0
      · cases h
  | succ m ih =>
    intro i t j h
    unfold prs at h
    split at h
    · cases h
    · split at h
      · split at h
        · cases h
          exact Nat.zero_le _
        · cases h
      · split at h
        · cases h
        · rename_i e1
          split at h
          · cases h
          · rename_i e2
            cases h
            have h1 := ih e1
            have h2 := ih e2
            show 1 + max _ _ ≤ m + 1
            omega
section
variable {P : Program} {w : World} {K : PySem.W.Frag} {mg : Str → Option Value} {base : Heap} {r : RC} {CB CT : Addr}
def spFrom (r : RC) (CT : Addr) (m : Nat) : Sp := fun vs H Q E => ∃ (p : Addr) (xs : List Str) (i : Nat), vs = [.ref p, .int (i : Int), .non, .int ((2 : Int) - (m : Int))] ∧ H p = some (.lst (xs.map V.str)) ∧ (∀ x ∈ xs, x.length ≤ 1000) ∧
  ((∃ t j, prs xs m i = .inr (t, j) ∧ ∀ v c H', Evl.Ex H H' → RegAt r H' t v → H' c = some (.tup [v, .int (j : Int)]) → Q (.ref c) H') ∨ (∃ e, prs xs m i = .inl e ∧ Raised2 CT "line" "item" (.int 0) (.int (e : Int)) H E))
theorem scFrom : FnScope ["items", "at", "lands", "depth", "item", "one", "behind", "other"] ["items", "at", "lands", "depth"] (defScope sFrom) := ⟨rfl, rfl, rfl, by decide +kernel, rfl, by decide +kernel, by decide +kernel⟩
/-- all that the reading needs -/
structure FrK (P : Program) (w : World) (K : PySem.W.Frag) (mg : Str → Option Value) (base : Heap) (r : RC) (CB CT g : Addr) (k : Nat) : Prop where
  X : Tx mg
  T : RgK K r
  B : RgB K mg g
  G : RgG mg r
  bad : E2 P w K mg base "BadText" "line" "item" CT
  at_ : ∃ f fd, FnOk P w K mg base (L2.CX P w) (k + 1) f fd ["items", "at"] (spItemAt CT) ∧ Binds K fd ["items", "at"] [] ∧ mg "item_at" = some (.ref f) ∧ PySem.W.keepIn K (.ref f) = true
  nm : ∃ f fd, Df P w K mg base (k + 1) "is_name" ["value"] (spK isName) f fd
  M : Mks P w K mg base r CB k k
  k1 : 1 ≤ k
  mo : ∃ f fd, FnOk P w K mg base (L2.CX P w) (k + 1) f fd ["sign", "one", "other"] (spMadeOf r CB) ∧ Binds K fd ["sign", "one", "other"] [] ∧ mg "made_of" = some (.ref f) ∧ PySem.W.keepIn K (.ref f) = true
theorem fn_false {k : Nat} {f : Addr} {fd : FuncData} {ps : List Str} {CX : CXT} : FnOk P w K mg base CX k f fd ps (fun _ _ _ _ => False) := ⟨fun _ _ _ _ h => h.elim, fun _ _ _ _ _ _ _ _ _ _ _ _ _ h => h.elim⟩
theorem from_step {g f : Addr} {fd : FuncData} {k kk m : Nat} {sub : Sp} {dvs : List V} (B : FrK P w K mg base r CB CT g k) (hs : FnOk P w K mg base (L2.CX P w) kk f fd ["items", "at", "lands", "depth"] sub) (le : k + 1 ≤ kk) (bf : Binds K fd ["items", "at", "lands", "depth"] [])
    (gf : mg "region_from" = some (.ref f)) (hsub : ∀ n, m = n + 1 → sub = spFrom r CT n) (hm : m ≤ 2) (F : FunD K "region_from" "region_from" (defArgs sFrom) (defBody sFrom) (defScope sFrom) dvs [] f fd) :
    FnOk P w K mg base (L2.CX P w) (kk + 1) f fd ["items", "at", "lands", "depth"] (spFrom r CT m) := by
  refine F.ok scFrom (fun vs H Q E h => ?_) (fun cdv A outer s H vs Q E hr h => ?_)
  · obtain ⟨p, xs, i, rfl, _⟩ := h
    rfl
  · obtain ⟨p, xs, i, rfl, hp, hx, q⟩ := h
    obtain ⟨X, T, RB, G, bad, ⟨fA, dA, oA, bA, gA, kA⟩, ⟨fN, dN, DN⟩, M, k1, ⟨fM, dM, oM, bM, gM, kM⟩⟩ := B
    obtain ⟨fL, dL, mL, oL, bL⟩ := M.L
    obtain ⟨fE, fdE, iC, tI, FI, bI, _⟩ := bad.made
    have nd := scFrom.nd
    have hr1 := hr.mono le
    refine ⟨_, pss_cons (ps_set (i := 4) nd rfl (.inl rfl) (pe_call oA hr1 (by rfl) gA kA bA .nil (passes_call (takes_of rfl rfl rfl rfl) (fun _ _ _ _ h => h)) (pa_cons (pv 0) (pa_cons (pv 1) pa_nil))))
      (pss_cons (ps_if (PW.pt (pw_and (pt_cmpR op_in_seq (pv 4) (pe_tup (pa_cons pe_str (pa_cons pe_str (pa_cons pe_str pa_nil)))) (by rfl)) (pw_and1 (pt_cmpR op_lt (pv 3) (ClX.pe_cval (pe_glob (v := .ref g) (by rfl) RB.nm rfl)) (nomark _)))))
          (pss_cons (ps_asg (pe_call hs hr (by rfl) gf F.kp bf .nil (passes_call (takes_of rfl rfl rfl rfl) (fun _ _ _ _ h => h)) (pa_cons (pv 0) (pa_cons (pe_op op_add (pv 1) pe_int) (pa_cons (pv 2) (pa_cons (pe_op op_add (pv 3) pe_int) pa_nil))))) (pg_tup (n := 2) rfl (pgs_cons (pg_name (i := 5) nd rfl (.inl rfl)) (pgs_cons (pg_name (i := 6) nd rfl (.inl rfl)) pgs_nil))))
          (pss_cons (ps_asg (pe_call hs hr (by rfl) gf F.kp bf .nil (passes_call (takes_of rfl rfl rfl rfl) (fun _ _ _ _ h => h)) (pa_cons (pv 0) (pa_cons (pv 6) (pa_cons (pv 2) (pa_cons (pe_op op_add (pv 3) pe_int) pa_nil))))) (pg_tup (n := 2) rfl (pgs_cons (pg_name (i := 7) nd rfl (.inl rfl)) (pgs_cons (pg_name (i := 6) nd rfl (.inl rfl)) pgs_nil))))
          (pss_one (ps_ret (pe_tup (pa_cons (pe_call oM hr1 (by rfl) gM kM bM .nil (passes_call (takes_of rfl rfl rfl rfl) (fun _ _ _ _ h => h)) (pa_cons (pv 4) (pa_cons (pv 5) (pa_cons (pv 7) pa_nil)))) (pa_cons (pv 6) pa_nil))))))) pss_nil)
      (pss_cons (ps_if (PW.pt (pw_or (pt_not (pt_val (pe_df DN hr1 (pa_cons (pv 4) pa_nil)))) (pw_or1 (PW.pt (pw_and (pt_cmpR op_notN (pv 2) pe_non (nomark _)) (pw_and1 (pt_cmpR op_notIn_seq (pv 4) (pv 2) (by rfl))))))))
        (pss_one (ps_raise rfl (takes_of rfl rfl rfl rfl) (pmk_oex bad.O iC tI FI (hr.mono (by omega)) (binds_of bI rfl) .nil pass0 rfl bad.g (pa_cons pe_int (pa_cons (pv 1) pa_nil))))) pss_nil)
      (pss_one (ps_ret (pe_tup (pa_cons (pe_make mL oL hr1 (by rfl) G.gL bL .nil (passes_call (takes_of rfl rfl rfl rfl) (fun _ _ _ _ h => h)) (pa_cons (pv 4) pa_nil)) (pa_cons (pe_op op_add (pv 1) pe_int) pa_nil))))))), ?_⟩
    refine ⟨.ref p, rfl, .int (i : Int), rfl, p, xs, i, rfl, hp, ?_⟩
    cases hz : xs[i]? with
    | none =>
      have hl := List.getElem?_eq_none_iff.mp hz
      refine .inr ⟨hl, ?_⟩
      rcases q with ⟨t, j, e, _⟩ | ⟨e, e1, q⟩
      · cases m <;> (unfold prs at e; rw [hz] at e; cases e)
      · have e2 : e = i := by
          cases m <;> (unfold prs at e1; rw [hz] at e1; cases e1; rfl)
        rw [e2] at q
        exact q
    | some z =>
      refine .inl ⟨z, rfl, fun H1 e1 => ?_⟩
      have hz3 : z.length ≤ 1000 := hx z (List.mem_of_getElem? hz)
      dsimp only
      refine Evl.q_when (b := (sgOf z).isSome && decide ((2 : Int) - (m : Int) < 2)) (Evl.et_and (Evl.et_is (Evl.et_test (Evl.ev_opV (Evl.ev_var rfl) (Evl.eu_tup (vs := [.str "+", .str "*", .str "-"]) (Evl.ea_cons Evl.ev_c (Evl.ea_cons Evl.ev_c (Evl.ea_cons Evl.ev_c Evl.ea_nil))) (by decide)) fun q H2 hq e2 => rv_inT (cs := ["+", "*", "-"]) (Evl.st_of hq))) (sgOf_in z)) (fun _ => Evl.et_test (Evl.ev_op (Evl.ev_var rfl) (ev_most RB) Evl.rv_I0))) (fun hb H2 e2 => ?_) (fun hb H2 e2 => ?_)
      · rw [Bool.and_eq_true] at hb
        obtain ⟨hb1, hb2⟩ := hb
        obtain ⟨s, hs1⟩ := Option.isSome_iff_exists.mp hb1
        have hm0 : (2 : Int) - (m : Int) < 2 := of_decide_eq_true hb2
        obtain ⟨n, rfl⟩ : ∃ n, m = n + 1 := ⟨m - 1, by omega⟩
        obtain rfl := hsub n rfl
        have e12 := e1.trans e2
        rw [prs_sg hz hs1] at q
        refine ⟨.ref p, rfl, .int (i : Int), rfl, (i : Int), 1, rfl, rfl, .non, rfl, .int ((2 : Int) - ((n + 1 : Nat) : Int)), rfl, _, 1, rfl, rfl, p, xs, i + 1, ?_, e12 _ _ hp, hx, ?_⟩
        · exact congrArg (fun x => [V.ref p, .int (((i + 1 : Nat) : Int)), .non, .int x]) (by omega)
        cases h1 : prs xs n (i + 1) with
        | inl e =>
          rw [h1] at q
          rcases q with ⟨t, j, h, _⟩ | ⟨e', h, q⟩
          · cases h
          · cases h
            exact .inr ⟨e, rfl, q.ex e12⟩
        | inr aj =>
          obtain ⟨a, j⟩ := aj
          rw [h1] at q
          dsimp only at q
          refine .inl ⟨a, j, rfl, fun va c H3 e3 hra hc => ?_⟩
          refine ⟨c, _, rfl, Evl.st_of hc, rfl, va, _, rfl, .int (j : Int), _, rfl, rfl, ?_⟩
          have e13 := e12.trans e3
          refine ⟨.ref p, rfl, .int (j : Int), rfl, .non, rfl, .int ((2 : Int) - ((n + 1 : Nat) : Int)), rfl, _, 1, rfl, rfl, p, xs, j, ?_, e13 _ _ hp, hx, ?_⟩
          · exact congrArg (fun x => [V.ref p, .int (j : Int), .non, .int x]) (by omega)
          cases h2 : prs xs n j with
          | inl e =>
            rw [h2] at q
            rcases q with ⟨t, j, h, _⟩ | ⟨e', h, q⟩
            · cases h
            · cases h
              exact .inr ⟨e, rfl, q.ex e13⟩
          | inr bk =>
            obtain ⟨b, l⟩ := bk
            rw [h2] at q
            dsimp only at q
            rcases q with ⟨t, j', h, q⟩ | ⟨e', h, q⟩
            case inr => cases h
            cases h
            refine .inl ⟨b, l, rfl, fun vb c2 H4 e4 hrb hc2 => ?_⟩
            refine ⟨c2, _, rfl, Evl.st_of hc2, rfl, vb, _, rfl, .int (l : Int), _, rfl, rfl, ?_⟩
            have e14 := e13.trans e4
            have da := prs_depth h1
            have db := prs_depth h2
            obtain rfl := sgOf_str hs1
            refine ⟨.str s.str, rfl, va, rfl, vb, rfl, s, va, vb, a, b, rfl, hra.mono e4, hrb, ?_, fun v H5 e5 hR => ?_⟩
            · show 1 + max a.depth b.depth ≤ 2
              omega
            refine ⟨.int (l : Int), rfl, (by show 2 ≤ sizeLine; decide), fun c3 n3 => ?_⟩
            have e6 := Evl.Ex.new (o := .tup [v, .int (l : Int)]) n3
            exact q v c3 _ ((e14.trans e5).trans e6) (hR.mono e6) upd_same
      · have e12 := e1.trans e2
        have hb' : ((sgOf z).isSome && decide (0 < m)) = false := by
          rw [← hb]
          congr 1
          exact decide_eq_decide.mpr (by omega)
        rw [prs_nm hz hb'] at q
        refine Evl.q_when (b := !nameB z) (Evl.et_is (Evl.et_or (Evl.et_not (Evl.et_B (Evl.ev_call (Evl.ea_cons (Evl.ev_var rfl) Evl.ea_nil) (sp_k (.str hz3))))) (fun _ => Evl.et_and (a := false) (b := false) (Evl.et_is (Evl.et_test (Evl.ev_op (z := .bl false) (Evl.ev_var rfl) Evl.ev_c fun H _ Q q => ⟨rfl, q H (Evl.Ex.refl H)⟩)) rfl) (fun z => nomatch z))) (by rw [Bool.false_and, Bool.or_false]; rfl)) (fun hn H3 e3 => ?_) (fun hn H3 e3 => ?_)
        · have hn' : nameB z = false := by
            cases h : nameB z with
            | false => rfl
            | true =>
              rw [h] at hn
              cases hn
          rw [hn', if_neg Bool.false_ne_true] at q
          rcases q with ⟨t, j, h, _⟩ | ⟨e', h, q⟩
          · cases h
          · cases h
            exact rd_mk2 bad.O bad.no bad.no1 (Evl.ea_cons Evl.ev_c (Evl.ea_cons (Evl.ev_var rfl) Evl.ea_nil)) (q.ex (e12.trans e3))
        · have hn' : nameB z = true := by
            cases h : nameB z with
            | true => rfl
            | false =>
              rw [h] at hn
              cases hn
          rw [hn', if_pos rfl] at q
          rcases q with ⟨t, j, h, q⟩ | ⟨e', h, _⟩
          case inr => cases h
          cases h
          delta tRet tTup tCons
          dsimp only
          refine rd_mkL (Evl.ea_cons (Evl.ev_var rfl) Evl.ea_nil) (.inl ⟨z, rfl, hn', fun v H4 e4 hR => ?_⟩) (fun z' h => by cases h; exact hz3)
          refine ⟨.int (i : Int), rfl, (i : Int), 1, rfl, rfl, (by show 2 ≤ sizeLine; decide), fun c3 n3 => ?_⟩
          have e6 := Evl.Ex.new (o := .tup [v, .int ((i : Int) + 1)]) n3
          exact q v c3 _ (((e12.trans e3).trans e4).trans e6) (hR.mono e6) upd_same
theorem ok_from {g f : Addr} {fd : FuncData} {k : Nat} {dvs : List V} (B : FrK P w K mg base r CB CT g k) (bf : Binds K fd ["items", "at", "lands", "depth"] []) (gf : mg "region_from" = some (.ref f)) (F : FunD K "region_from" "region_from" (defArgs sFrom) (defBody sFrom) (defScope sFrom) dvs [] f fd) :
    ∀ m, m ≤ 2 → FnOk P w K mg base (L2.CX P w) (k + 2 + m) f fd ["items", "at", "lands", "depth"] (spFrom r CT m)
  | 0, h => from_step B fn_false (Nat.le_refl _) bf gf (fun n h => nomatch h) h F
  | m + 1, h => from_step B (ok_from B bf gf F m (by omega)) (by show k + 1 ≤ k + 2 + m; omega) bf gf (fun n h => by cases h; rfl) h F
end
end K04
/-! A method of the object's class, its values all by keywords. -/
namespace BW
open PySem PySem.Spec PyProof.Rows L2
/-- the method m of the class C, by one keyword -/
structure MdK (P : Program) (w : World) (K : PySem.W.Frag) (mg : Str → Option Value) (base : Heap) (CX : CXT) (k : Nat) (m : Str) (ks : List Str) (C : Addr) (sp : Sp) : Prop where
  cl : Cls K C
  ex : ∃ (f : Addr) (fd : FuncData) (ps : List Str), Meth K C m f ∧ FnOk P w K mg base CX k f fd ps sp ∧ KBn K fd ps 1 ks (fun us ws => us ++ ws) (fun vs zs => vs ++ zs)
def tMethK (R : Addr → Sp → Prop) (m : Str) (n : Nat) (E : XK) (ta : TE) (t : TA) : TE := fun σ H Q => ta σ H fun x H1 => ∃ a C dx fs sp, x = .ref a ∧ H1 a = some (.ins C dx fs) ∧ fs.lookup m = none ∧ R C sp ∧ t σ H1 fun zs H2 => zs.length = n ∧ sp (x :: zs) H2 Q E
section
variable {X : Cx} {k : Nat} {CX : CXT} {E : XK} {R : Addr → Sp → Prop} {o : Expr} {kws : List Keyword} {ks : List Str} {m : Str} {pos apos : Pos} {ta : TE} {t : TA}
theorem pe_methK {pl : Sem Bool} (he : PE X o ta) (D : ∀ C sp, R C sp → MdK X.prog X.w X.K X.mg X.base CX k m ks C sp) (hr : Room k X.A) (hx : Passes CX X E) (hkw : PK X kws t)
    (hall : (backToKw pos (keywordEach kws X.env)).all (·.1.isSome) = true := by rfl) (hks : (backToKw pos (keywordEach kws X.env)).filterMap (·.1) = ks := by rfl)
    (hpl : ((backTo pos (starEach [] X.env)).any (·.1) || (backToKw pos (keywordEach kws X.env)).any (·.1.isNone)) = false := by rfl)
    (ht : eval (.Call (.Attribute o m apos) [] kws pos) X.env = (do
      let ov ← eval o X.env
      standAt apos.atName
      let (f, first) ← holding [ov] (getMethod ov m pl)
      callWith pos f first (backTo pos (starEach [] X.env)) (backToKw pos (keywordEach kws X.env))) := by rfl) :
    PE X (.Call (.Attribute o m apos) [] kws pos) (tMethK R m ks.length E ta t) := by
  refine ⟨fun pins s σ H Q I h => ?_⟩
  refine PySem.W.methodCall_KW (pl := pl) (thn (he.run pins s σ H _ I h) fun u s1 ⟨x, H1, I1, rx, a, C, dx, fs, sp, ex, ea, l, hR, q⟩ => ?_) ht
  subst ex
  obtain rfl : u = Value.ref a := rx
  obtain ⟨cl, f, fd, ps, hm, F, hb⟩ := D C sp hR
  refine getmeth_ok I1 ea cl hm l ?_
  refine PySem.W.callWith_KW0 (first := [.ref a]) (h₀ := X.base) I.ok.mod.kin hm.kp hall ?_ hpl
  refine thn (hkw.run pos pins s1 σ H1 _ I1 q) fun ws s2 ⟨zs, H2, I2, rz, l2, q2⟩ => ⟨I2.kIn, ?_⟩
  rw [hks]
  exact run_fnN (us := [.ref a]) (vs := [.ref a]) F hr hb hx I2 (.cons rfl .nil) rz rfl l2 q2
end
end BW
namespace K04
open PySem PySem.Spec PyProof.Rows L2 BW
abbrev cReg (j : Nat) : Stmt := inClass (topS 17) j
section
variable {P : Program} {w : World} {K : PySem.W.Frag} {mg : Str → Option Value} {base : Heap} {r : RC} {CB CT CW : Addr}
def spOver (r : RC) (CW C : Addr) : Sp := fun vs H Q E => ∃ (x c : V) (t : Tr) (o : Option (List V)), vs = [x, c] ∧ RegAt r H t x ∧ r.at t = C ∧ t.depth ≤ 2 ∧ Seen H c o ∧
  ((∃ cs : List Str, o = some (cs.map V.str) ∧ cs.length ≤ 20 ∧ cellO o = true ∧ Evl.RetV (.bl (t.over cs)) H Q) ∨ (cellO o = false ∧ Raised CW "part" (.str "cell") H E))
def ROver (r : RC) (CW : Addr) : Addr → Sp → Prop := fun C sp => IsRg r C ∧ sp = spOver r CW C
def OverAt (P : Program) (w : World) (K : PySem.W.Frag) (mg : Str → Option Value) (base : Heap) (r : RC) (CW : Addr) (k : Nat) : Prop := ∀ C sp, ROver r CW C sp → Md P w K mg base (L2.CX P w) k "is_over" C sp ∧ MdK P w K mg base (L2.CX P w) k "is_over" ["cell"] C sp
theorem scOvL : FnScope ["self", "cell"] ["self", "cell"] (defScope (cLand 2)) := ⟨rfl, rfl, rfl, by decide +kernel, rfl, by decide +kernel, by decide +kernel⟩
theorem scOvS : FnScope ["self", "cell"] ["self", "cell"] (defScope (cSum 1)) := ⟨rfl, rfl, rfl, by decide +kernel, rfl, by decide +kernel, by decide +kernel⟩
theorem scOvC : FnScope ["self", "cell"] ["self", "cell"] (defScope (cCom 1)) := ⟨rfl, rfl, rfl, by decide +kernel, rfl, by decide +kernel, by decide +kernel⟩
theorem scOvR : FnScope ["self", "cell"] ["self", "cell"] (defScope (cRes 1)) := ⟨rfl, rfl, rfl, by decide +kernel, rfl, by decide +kernel, by decide +kernel⟩
theorem over_go {C : Addr} {vs : List V} {H : Hp} {Q : VK} {E : XK} (h : spOver r CW C vs H Q E) : tRet (tMethD (RCov K r 2) "covers" E0 (tVar 0) (tCons (tCall (spReqCell CW) [] E (tCons (tVar 1) (tCons (tC (.str "cell")) tNil))) tNil)) { nx := fun _ H' => Q .non H', rt := Q } (start ["self", "cell"] vs) H := by
  obtain ⟨x, c, t, o, rfl, hR, hC, hd, sn, q⟩ := h
  obtain ⟨p, dx, fs, rfl, S⟩ := hR.see
  delta tRet
  refine ⟨.ref p, rfl, p, _, dx, fs, spCov K r 2 (r.at t), rfl, S.at_, S.cov, ⟨isRg_at r t, rfl⟩, c, rfl, c, "cell", o, rfl, sn, ?_⟩
  rcases q with ⟨cs, rfl, hl, hc, q⟩ | ⟨hc, q⟩
  · refine .inl ⟨hc, fun xs c' H1 hx e1 h1 => ?_⟩
    cases hx
    exact ⟨.ref p, c', t, cs, rfl, hR.mono e1, rfl, hd, Evl.st_of h1, hl, fun H2 e2 => q.go (e1.trans e2)⟩
  · exact .inr ⟨hc, q⟩
theorem ok_ovL {f fC : Addr} {fd fdC : FuncData} {k : Nat} (D : CovAt P w K mg base r (k + 1) 2) (RC : FnOk P w K mg base (L2.CX P w) (k + 1) fC fdC ["value", "part"] (spReqCell CW)) (bC : Binds K fdC ["value", "part"] []) (gC : mg "require_cell" = some (.ref fC)) (kC : PySem.W.keepIn K (.ref fC) = true)
    (F : Fun K "is_over" "Land.is_over" (cLand 2) f fd) : FnOk P w K mg base (L2.CX P w) (k + 2) f fd ["self", "cell"] (spOver r CW r.L) := by
  refine F.okX scOvL (fun vs H Q E h => ?_) (fun cdv A outer s H vs Q E hr h => ?_)
  · obtain ⟨x, c, t, o, rfl, _⟩ := h
    rfl
  · exact ⟨_, pss_one (ps_ret (pe_methD (pv 0) D hr pass0 (pa_cons (pe_call RC hr (by rfl) gC kC bC .nil (passes_call (takes_of rfl rfl rfl rfl) (fun _ _ _ _ h => h)) (pa_cons (pv 1) (pa_cons pe_str pa_nil))) pa_nil))), over_go (K := K) h⟩
theorem ok_ovS {f fC : Addr} {fd fdC : FuncData} {k : Nat} (D : CovAt P w K mg base r (k + 1) 2) (RC : FnOk P w K mg base (L2.CX P w) (k + 1) fC fdC ["value", "part"] (spReqCell CW)) (bC : Binds K fdC ["value", "part"] []) (gC : mg "require_cell" = some (.ref fC)) (kC : PySem.W.keepIn K (.ref fC) = true)
    (F : Fun K "is_over" "Sum.is_over" (cSum 1) f fd) : FnOk P w K mg base (L2.CX P w) (k + 2) f fd ["self", "cell"] (spOver r CW r.S) := by
  refine F.okX scOvS (fun vs H Q E h => ?_) (fun cdv A outer s H vs Q E hr h => ?_)
  · obtain ⟨x, c, t, o, rfl, _⟩ := h
    rfl
  · exact ⟨_, pss_one (ps_ret (pe_methD (pv 0) D hr pass0 (pa_cons (pe_call RC hr (by rfl) gC kC bC .nil (passes_call (takes_of rfl rfl rfl rfl) (fun _ _ _ _ h => h)) (pa_cons (pv 1) (pa_cons pe_str pa_nil))) pa_nil))), over_go (K := K) h⟩
theorem ok_ovC {f fC : Addr} {fd fdC : FuncData} {k : Nat} (D : CovAt P w K mg base r (k + 1) 2) (RC : FnOk P w K mg base (L2.CX P w) (k + 1) fC fdC ["value", "part"] (spReqCell CW)) (bC : Binds K fdC ["value", "part"] []) (gC : mg "require_cell" = some (.ref fC)) (kC : PySem.W.keepIn K (.ref fC) = true)
    (F : Fun K "is_over" "Common.is_over" (cCom 1) f fd) : FnOk P w K mg base (L2.CX P w) (k + 2) f fd ["self", "cell"] (spOver r CW r.C) := by
  refine F.okX scOvC (fun vs H Q E h => ?_) (fun cdv A outer s H vs Q E hr h => ?_)
  · obtain ⟨x, c, t, o, rfl, _⟩ := h
    rfl
  · exact ⟨_, pss_one (ps_ret (pe_methD (pv 0) D hr pass0 (pa_cons (pe_call RC hr (by rfl) gC kC bC .nil (passes_call (takes_of rfl rfl rfl rfl) (fun _ _ _ _ h => h)) (pa_cons (pv 1) (pa_cons pe_str pa_nil))) pa_nil))), over_go (K := K) h⟩
theorem ok_ovR {f fC : Addr} {fd fdC : FuncData} {k : Nat} (D : CovAt P w K mg base r (k + 1) 2) (RC : FnOk P w K mg base (L2.CX P w) (k + 1) fC fdC ["value", "part"] (spReqCell CW)) (bC : Binds K fdC ["value", "part"] []) (gC : mg "require_cell" = some (.ref fC)) (kC : PySem.W.keepIn K (.ref fC) = true)
    (F : Fun K "is_over" "Rest.is_over" (cRes 1) f fd) : FnOk P w K mg base (L2.CX P w) (k + 2) f fd ["self", "cell"] (spOver r CW r.R) := by
  refine F.okX scOvR (fun vs H Q E h => ?_) (fun cdv A outer s H vs Q E hr h => ?_)
  · obtain ⟨x, c, t, o, rfl, _⟩ := h
    rfl
  · exact ⟨_, pss_one (ps_ret (pe_methD (pv 0) D hr pass0 (pa_cons (pe_call RC hr (by rfl) gC kC bC .nil (passes_call (takes_of rfl rfl rfl rfl) (fun _ _ _ _ h => h)) (pa_cons (pv 1) (pa_cons pe_str pa_nil))) pa_nil))), over_go (K := K) h⟩
/-- where the reading of the items stops -/
def stp (xs : List Str) : Option Nat := match prs xs 2 0 with
  | .inl e => some e
  | .inr (_, j) => if j < xs.length then some j else none
def spRead (r : RC) (CT : Addr) : Sp := fun vs H Q E => ∃ v : V, vs = [v] ∧ ((∃ z, v = .str z ∧ z.length ≤ 1000 ∧ (∀ x ∈ Txt.split z blank, x.length ≤ 1000) ∧
    ((∃ t j, prs (Txt.split z blank) 2 0 = .inr (t, j) ∧ stp (Txt.split z blank) = none ∧ ∀ v H', Evl.Ex H H' → RegAt r H' t v → Q v H') ∨ (∃ e, stp (Txt.split z blank) = some e ∧ Raised2 CT "line" "item" (.int 0) (.int (e : Int)) H E))) ∨
  (isS v = false ∧ (∃ o, RVal r H v o) ∧ Raised2 CT "line" "item" (.int 0) (.int 0) H E))
theorem scRead : FnScope ["text", "items", "region", "behind"] ["text"] (defScope (cReg 3)) := ⟨rfl, rfl, rfl, by decide +kernel, rfl, by decide +kernel, by decide +kernel⟩
theorem ok_read {f fI fF fE : Addr} {fd fdI fdF fdE : FuncData} {k : Nat} {ds : List Value} (I : FnOk P w K mg base (L2.CX P w) (k + 1) fI fdI ["text"] (spItems r CT)) (bI : Binds K fdI ["text"] []) (gI : mg "text_items" = some (.ref fI)) (kI : PySem.W.keepIn K (.ref fI) = true)
    (O : FnOk P w K mg base (L2.CX P w) (k + 1) fF fdF ["items", "at", "lands", "depth"] (spFrom r CT 2)) (bF : Binds K fdF ["items", "at", "lands", "depth"] ds) (rD : Vals [.non, .int 0] ds) (gF : mg "region_from" = some (.ref fF)) (kF : PySem.W.keepIn K (.ref fF) = true)
    (N : FnOk P w K mg base (L2.CX P w) (k + 1) fE fdE ["items", "at"] (spReqEnd CT)) (bE : Binds K fdE ["items", "at"] []) (gE : mg "require_end" = some (.ref fE)) (kE : PySem.W.keepIn K (.ref fE) = true)
    (F : Fun K "read" "Region.read" (cReg 3) f fd) : FnOk P w K mg base (L2.CX P w) (k + 2) f fd ["text"] (spRead r CT) := by
  refine F.okX scRead (fun vs H Q E h => ?_) (fun cdv A outer s H vs Q E hr h => ?_)
  · obtain ⟨v, rfl, _⟩ := h
    rfl
  · obtain ⟨v, rfl, q⟩ := h
    have nd := scRead.nd
    refine ⟨_, pss_cons (ps_set (i := 1) nd rfl (.inl rfl) (pe_call I hr (by rfl) gI kI bI .nil (passes_call (takes_of rfl rfl rfl rfl) (fun _ _ _ _ h => h)) (pa_cons (pv 0) pa_nil)))
      (pss_cons (ps_asg (pe_call O hr (by rfl) gF kF bF rD (passes_call (takes_of rfl rfl rfl rfl) (fun _ _ _ _ h => h)) (pa_cons (pv 1) (pa_cons pe_int pa_nil))) (pg_tup (n := 2) rfl (pgs_cons (pg_name (i := 2) nd rfl (.inl rfl)) (pgs_cons (pg_name (i := 3) nd rfl (.inl rfl)) pgs_nil))))
      (pss_cons (ps_expr (pe_call N hr (by rfl) gE kE bE .nil (passes_call (takes_of rfl rfl rfl rfl) (fun _ _ _ _ h => h)) (pa_cons (pv 1) (pa_cons (pv 3) pa_nil))))
      (pss_one (ps_ret (pv 2))))), ?_⟩
    rcases q with ⟨z, rfl, hz, hx, q⟩ | ⟨hs, ho, q⟩
    · refine ⟨.str z, rfl, .str z, rfl, .inl ⟨z, rfl, hz, fun p H1 np e1 hp => ?_⟩⟩
      refine ⟨.ref p, rfl, p, _, 0, rfl, hp, hx, ?_⟩
      cases h1 : prs (Txt.split z blank) 2 0 with
      | inl e =>
        have hst : stp (Txt.split z blank) = some e := by
          unfold stp
          rw [h1]
        rcases q with ⟨t, j, h, _⟩ | ⟨e', h, q⟩
        · rw [h1] at h
          cases h
        · rw [hst] at h
          cases h
          exact .inr ⟨e, rfl, q.ex e1⟩
      | inr aj =>
        obtain ⟨a, j⟩ := aj
        refine .inl ⟨a, j, rfl, fun va c H2 e2 hra hc => ?_⟩
        refine ⟨c, _, rfl, Evl.st_of hc, rfl, va, _, rfl, .int (j : Int), _, rfl, rfl, ?_⟩
        have e12 := e1.trans e2
        refine ⟨.ref p, rfl, .int (j : Int), rfl, p, _, j, rfl, e2 _ _ hp, ?_⟩
        have hst : stp (Txt.split z blank) = if j < (Txt.split z blank).length then some j else none := by
          unfold stp
          rw [h1]
        rcases q with ⟨t, j', h, hn, q⟩ | ⟨e', h, q⟩
        · rw [h1] at h
          cases h
          refine .inl ⟨?_, fun H3 e3 => ⟨va, rfl, q va H3 (e12.trans e3) (hra.mono e3)⟩⟩
          rw [hst] at hn
          split at hn
          · cases hn
          · omega
        · rw [hst] at h
          split at h
          · cases h
            exact .inr ⟨by assumption, q.ex e12⟩
          · cases h
    · exact ⟨v, rfl, v, rfl, .inr ⟨hs, ho, q⟩⟩
end
end K04
/-! New lists, tuples, dicts among what draws; [x for i, x in enumerate(xs) if t]. -/
namespace BW
open PySem PySem.Spec PyProof.Rows L2
section
variable {p L : Addr} {te ta tb : TE} {tr : TA} {σ : L2.St} {H H' : Hp} {m m' N : Nat} {P P' : Wd} {v : V} {K : PySem.W.Frag}
theorem ed_lstP (mP : Mon P) (hN : N ≤ 100000) (h : Eda p L tr σ H m N P) : Evd p L (tLst tr) σ H m (fun v G => ∃ a vs, v = .ref a ∧ G a = some (.lst vs) ∧ vs.length = N ∧ ∀ x ∈ vs, P x G) := fun H1 k n pn hn Q q =>
  h H1 k n pn hn _ fun vs H2 k2 p2 l pvs => ⟨by rw [l]; exact Evl.sz_of hN, fun a na => by
    have ka : Kp p H2 (upd H2 a (.lst vs)) := Same.kp (same_new na)
    exact q _ _ (k2.trans ka) (p2.same (same_new na)) ⟨a, vs, rfl, hide_at (p2.ne na).1 upd_same, l, fun x hx => mP _ _ _ (hide_kp ka) (pvs x hx)⟩⟩
theorem ed_tupP (mP : Mon P) (hN : N ≤ 100000) (h : Eda p L tr σ H m N P) : Evd p L (tTup tr) σ H m (fun v G => ∃ a vs, v = .ref a ∧ G a = some (.tup vs) ∧ vs.length = N ∧ ∀ x ∈ vs, P x G) := fun H1 k n pn hn Q q =>
  h H1 k n pn hn _ fun vs H2 k2 p2 l pvs => ⟨by rw [l]; exact Evl.sz_of hN, fun a na => by
    have ka : Kp p H2 (upd H2 a (.tup vs)) := Same.kp (same_new na)
    exact q _ _ (k2.trans ka) (p2.same (same_new na)) ⟨a, vs, rfl, hide_at (p2.ne na).1 upd_same, l, fun x hx => mP _ _ _ (hide_kp ka) (pvs x hx)⟩⟩
theorem q_asgD {D : Ends} {tz : TS} {i n : Nat} (h : Evd p L te σ H m P) (pn : PenL H p L n) (hn : n + m ≤ 100000) (k : ∀ v H1, Kp p H H1 → PenL H1 p L (n + m) → P v (hide p H1) → tz D (σ.set i (some v)) H1) : tSeq (tAsg te (gName i)) tz D σ H :=
  h H (Kp.refl p H) n pn hn _ k
theorem s_asgD {D : Ends} {i n : Nat} (h : Evd p L te σ H m P) (pn : PenL H p L n) (hn : n + m ≤ 100000) (k : ∀ v H1, Kp p H H1 → PenL H1 p L (n + m) → P v (hide p H1) → D.nx (σ.set i (some v)) H1) : tAsg te (gName i) D σ H :=
  h H (Kp.refl p H) n pn hn _ k
theorem s_retD {D : Ends} {n : Nat} (h : Evd p L te σ H m P) (pn : PenL H p L n) (hn : n + m ≤ 100000) (k : ∀ v H1, Kp p H H1 → PenL H1 p L (n + m) → P v (hide p H1) → D.rt v H1) : tRet te D σ H :=
  h H (Kp.refl p H) n pn hn _ k
theorem ed_dict0 : Evd p L tDNewK σ H 0 (fun v G => ∃ a, v = .ref a ∧ G a = some (.dK [])) := fun H1 k n pn hn Q q a na =>
  q _ _ (Same.kp (same_new na)) (pn.same (same_new na)) ⟨a, rfl, hide_at (pn.ne na).1 upd_same⟩
theorem cutV_mem {xs : List V} {lo hi : Option Int} {x : V} (h : x ∈ cutV xs lo hi) : x ∈ xs := by
  unfold cutV at h
  exact List.mem_of_mem_drop (List.mem_of_mem_take h)
/-- a new list, told by a word on what it holds and the heap -/
def Evn (te : TE) (σ : L2.St) (H : Hp) (P : List V → Prop) : Prop := ∀ H1, Evl.Ex H H1 → ∀ Q : VK, (∀ a xs H2, H1 a = none → Evl.Ex H1 H2 → H2 a = some (.lst xs) → P xs → Q (.ref a) H2) → te σ H1 Q
theorem s_asgN {D : Ends} {i : Nat} {P : List V → Prop} (h : Evn te σ H P) (k : ∀ a xs H2, H a = none → Evl.Ex H H2 → H2 a = some (.lst xs) → P xs → D.nx (σ.set i (some (.ref a))) H2) : tAsg te (gName i) D σ H := h H (Evl.Ex.refl H) _ k
theorem q_asgN {D : Ends} {tz : TS} {i : Nat} {P : List V → Prop} (h : Evn te σ H P) (k : ∀ a xs H2, H a = none → Evl.Ex H H2 → H2 a = some (.lst xs) → P xs → tz D (σ.set i (some (.ref a))) H2) : tSeq (tAsg te (gName i)) tz D σ H := h H (Evl.Ex.refl H) _ k
theorem ed_ofN {P : List V → Prop} (h : ∀ H1, Kp p H H1 → Evn te σ H1 P) : Evd p L te σ H 0 (fun v G => ∃ a xs, v = .ref a ∧ G a = some (.lst xs) ∧ P xs) := fun H1 k n pn hn Q q =>
  h H1 k H1 (Evl.Ex.refl H1) _ fun a xs H2 na e ha hp => q _ H2 (Same.kp e) (pn.same e) ⟨a, xs, rfl, hide_at (pn.ne na).1 ha, hp⟩
/-- [x for i, x in enumerate(xs) if t] -/
theorem en_lcE {tl : TE} {tt : TT} {i j M : Nat} {vs : List Nat} {Px : List V → Prop} (J : List V → Nat → List V → Prop) (hl : Evn tl σ H Px) (hlen : ∀ xs, Px xs → xs.length ≤ M) (hM : M ≤ 1000) (hij : i ≠ j) (hjs : ∀ y z, ((((wipe σ vs).set i (some y)).set j (some z)))[j]? = some (some z))
    (hw : ∀ y z, wipe (((wipe σ vs).set i (some y)).set j (some z)) vs = wipe σ vs) (h0 : ∀ xs, Px xs → J xs 0 [])
    (hs : ∀ xs, Px xs → ∀ (t : Nat) (x : V) (acc : List V), xs[t]? = some x → J xs t acc → ∀ H1, Evl.Ex H H1 → ∀ Q : Bool → Hp → Prop, (∀ b H2, Evl.Ex H1 H2 → J xs (t + 1) (if b = true then acc ++ [x] else acc) → Q b H2) → tt (((wipe σ vs).set i (some (.int (t : Int)))).set j (some x)) H1 Q) (hacc : ∀ xs t acc, J xs t acc → acc.length ≤ t) :
    Evn (tLc (iEnum K (tCons tl tNil)) (gTup K 2 (gCons (gName i) (gCons (gName j) gNil))) tt (tVar j) vs) σ H (fun ys => ∃ xs, Px xs ∧ J xs xs.length ys) := fun H1 e Q q =>
  hl H1 e _ fun a xs H2 na e2 ha px => ⟨a, xs, rfl, Evl.sq_of ha, fun Dl hD => by
    refine lc_it (walk_enum (K := K) (a := a) (xs := xs)) (fun t G => ∃ acc, J xs t acc ∧ Evl.Ex H2 G ∧ G Dl = some (.lst acc) ∧ t ≤ xs.length) ⟨[], h0 xs px, Evl.Ex.new hD, upd_same, Nat.zero_le _⟩ (fun t G _ hp => ?_) (fun t x G G' ht hp hy => ?_) (fun G hp => ?_)
    · obtain ⟨acc, _, e3, _⟩ := hp
      exact Evl.sq_of (e3 _ _ ha)
    · obtain ⟨acc, hJ, e3, hd, htl⟩ := hp
      obtain ⟨T, y, z, rfl, nT, rfl, ey, ez⟩ := hy
      obtain rfl := Option.some.inj ey
      have eT : Evl.Ex G (upd G T (.tup [.int (t : Nat), z])) := Evl.Ex.new nT
      refine ⟨T, _, rfl, .inl (.inl upd_same), rfl, .int (t : Nat), _, rfl, z, [], rfl, rfl, hw _ _, ?_⟩
      have neD : Dl ≠ T := ne_of_none hd nT
      refine hs xs px t z acc ez hJ _ ((e.trans e2).trans (e3.trans eT)) _ fun b H3 e4 hJ' => ?_
      have hd3 : H3 Dl = some (.lst acc) := e4 _ _ (eT _ _ hd)
      have la := hacc _ _ _ hJ
      have lx := hlen xs px
      cases b with
      | true =>
        rw [if_pos rfl] at hJ' ⊢
        refine ⟨z, hjs _ _, acc, hd3, small_of (by omega), acc ++ [z], hJ', ?_, upd_same, ht⟩
        exact Evl.Ex.mut ((e3.trans eT).trans e4) hD
      | false =>
        rw [if_neg Bool.false_ne_true] at hJ' ⊢
        exact ⟨acc, hJ', (e3.trans eT).trans e4, hd3, ht⟩
    · obtain ⟨acc, hJ, e3, hd, _⟩ := hp
      exact q Dl acc G (Evl.fresh_back e2 hD) (e2.trans e3) hd ⟨xs, px, hJ⟩⟩
end
end BW
/-! for c in text: ..; a pick out of a list. -/
namespace BW
open PySem PySem.Spec PyProof.Rows L2
theorem for_str {w : Str} {g : TG} {tb : TS} {D : Ends} {σ : L2.St} {H : Hp} (Pv : Nat → L2.St → Hp → Prop) (h0 : Pv 0 σ H)
    (hs : ∀ i c σ H, w.cps[i]? = some c → Pv i σ H → g (.str ⟨#[c]⟩) σ H fun σ2 H2 => tb { D with nx := Pv (i + 1), ct := Pv (i + 1), bk := D.nx } σ2 H2) (hd : ∀ σ H, Pv w.cps.size σ H → D.nx σ H) :
    ∃ W : Nat → Nat → L2.St → Hp → Prop, (∃ m, W 0 m σ H) ∧ ∀ i m σ H, W i m σ H →
      ((Its w).stop i H ∧ D.nx σ H) ∨ ((Its w).go i H ∧ ∃ N : L2.St → Hp → Prop, (∀ σ' H', N σ' H' → ∃ m', m' < m ∧ W (i + 1) m' σ' H') ∧ ∀ x H', (Its w).yld i H x H' → g x σ H' fun σ2 H2 => tb { D with nx := N, ct := N, bk := D.nx } σ2 H2) := by
  refine ⟨fun i m σ H => m = w.cps.size - i ∧ i ≤ w.cps.size ∧ Pv i σ H, ⟨w.cps.size, by simp, Nat.zero_le _, h0⟩, ?_⟩
  rintro i m σ H ⟨rfl, hi, p⟩
  by_cases hlt : i < w.cps.size
  · refine .inr ⟨hlt, Pv (i + 1), fun σ' H' p' => ⟨w.cps.size - (i + 1), by omega, rfl, hlt, p'⟩, fun x H' y => ?_⟩
    obtain ⟨e, c, hc, rfl⟩ := y
    subst e
    exact hs i c σ _ hc p
  · have e : i = w.cps.size := by omega
    subst e
    exact .inl ⟨Nat.le_refl _, hd σ H p⟩
end BW
namespace K04
open PySem PySem.Spec PyProof.Rows L2 BW
abbrev sPick : Stmt := topS 31
abbrev sNames : Stmt := topS 32
abbrev sTree : Stmt := topS 33
section
variable {P : Program} {w : World} {K : PySem.W.Frag} {mg : Str → Option Value} {base : Heap} {p L : Addr}
theorem ed_draw {te : TE} {σ : L2.St} {H : Hp} {m i : Nat} {M : Int} (hσ : σ[i]? = some (some (.ref p))) (hM : M.natAbs < 2 ^ 200) (h : Evd p L te σ H m (fun v _ => ∃ j, v = .int j ∧ 0 < j ∧ j ≤ M)) :
    Evd p L (tCall spDraw [] E0 (tCons (tVar i) (tCons te tNil))) σ H (m + 1) (Lt M) := fun H1 k n pn hn Q q =>
  ⟨.ref p, hσ, h H1 k n pn (by omega) _ fun v H2 k2 p2 hv => by
    obtain ⟨j, rfl, j0, j1⟩ := hv
    exact ⟨p, L, n + m, j, rfl, p2, by omega, j0, by omega, fun r H3 r0 r1 k3 p3 => q _ H3 (k2.trans k3) (by rw [← Nat.add_assoc]; exact p3) ⟨r, rfl, r0, by omega⟩⟩⟩
theorem ed_drawC {σ : L2.St} {H : Hp} {i : Nat} {M : Int} (hσ : σ[i]? = some (some (.ref p))) (h0 : 0 < M) (hM : M.natAbs < 2 ^ 200) : Evd p L (tCall spDraw [] E0 (tCons (tVar i) (tCons (tC (.int M)) tNil))) σ H 1 (Lt M) :=
  Evd.up (ed_draw (m := 0) hσ hM (ed_c fun _ => ⟨M, rfl, h0, Int.le_refl M⟩)) (by omega)
def spPick : Sp := fun vs H Q _ => ∃ (p L a : Addr) (n : Nat) (xs : List V), vs = [.ref p, .ref a] ∧ PenL H p L n ∧ n + 1 ≤ 100000 ∧ a ≠ p ∧ H a = some (.lst xs) ∧ xs ≠ [] ∧ xs.length ≤ 100000 ∧
  ∀ x H', x ∈ xs → Kp p H H' → PenL H' p L (n + 1) → Q x H'
theorem scPick : FnScope ["_law_pen_here", "_law_some"] ["_law_pen_here", "_law_some"] (defScope sPick) := ⟨rfl, rfl, rfl, by decide +kernel, rfl, by decide +kernel, by decide +kernel⟩
theorem ok_pick {f fN : Addr} {fd fdN : FuncData} {k : Nat} (T : Tx mg) (N : Df P w K mg base (k + 1) "_law_draw" ["_law_pen_here", "_law_many"] spDraw fN fdN) (F : Fun K "_law_pick" "_law_pick" sPick f fd) : FnOk P w K mg base CX0 (k + 2) f fd ["_law_pen_here", "_law_some"] spPick := by
  refine F.ok scPick (fun vs H Q E h => ?_) (fun cdv A outer s H vs Q E hr h => ?_)
  · obtain ⟨p, L, a, n, xs, rfl, _⟩ := h
    rfl
  · obtain ⟨p, L, a, n, xs, rfl, hP, hn, na, ha, hx, hl, q⟩ := h
    refine ⟨_, pss_one (ps_ret (pe_ix ix_list (pv 1) (pe_df N hr (pa_cons (pv 0) (pa_cons (pe_callB call_len_seq (by rfl) T.len PySem.boot_len (pa_cons (pv 1) pa_nil)) pa_nil))) (fun _ _ => rfl))), ?_⟩
    have hl0 : 0 < xs.length := List.length_pos_iff.mpr hx
    refine ⟨.ref a, rfl, .ref p, rfl, .ref a, rfl, a, xs, rfl, .inl (Evl.sq_of ha), p, L, n, (xs.length : Int), rfl, hP, by omega, by omega, by omega, fun r H' r0 r1 k pn => ?_⟩
    have hi : r.toNat < xs.length := by omega
    have er : r = ((r.toNat : Nat) : Int) := by omega
    have z := atI_nat (xs := xs) (j := r.toNat) (List.getElem?_eq_getElem hi)
    rw [← er] at z
    exact ⟨a, xs, r, xs[r.toNat], rfl, rfl, Evl.sq_of (k _ _ na ha), z, q _ H' (List.getElem_mem hi) k pn⟩
/-- pick(pen, l) -/
theorem ed_pickC {te : TE} {σ : L2.St} {H : Hp} {m i N : Nat} {P : Wd} (mP : Mon P) (hσ : σ[i]? = some (some (.ref p))) (hN : 0 < N ∧ N ≤ 100000) (h : Evd p L te σ H m (fun v G => ∃ a vs, v = .ref a ∧ G a = some (.lst vs) ∧ vs.length = N ∧ ∀ x ∈ vs, P x G)) :
    Evd p L (tCall spPick [] E0 (tCons (tVar i) (tCons te tNil))) σ H (m + 1) P := fun H1 k n pn hn Q q =>
  ⟨.ref p, hσ, h H1 k n pn (by omega) _ fun v H2 k2 p2 hv => by
    obtain ⟨a, vs, rfl, ha, hl, hp⟩ := hv
    exact ⟨p, L, a, n + m, vs, rfl, p2, by omega, hide_ne ha, hide_sub _ _ _ _ ha, (fun z => by rw [z] at hl; simp at hl; omega), by omega, fun x H3 hx k3 p3 => q x H3 (k2.trans k3) (by rw [← Nat.add_assoc]; exact p3) (mP _ _ _ (hide_kp k3) (hp x hx))⟩⟩
end
end K04
namespace K04
open PySem PySem.Spec PyProof.Rows L2 BW
/-- the signs of a name, whatever its length -/
def okL : List Nat → Bool
  | [] => false
  | c :: r => isLet c && (c :: r).all fun c => isLet c || isDig c
theorem okL_app {l r : List Nat} (h : okL l = true) (hr : ∀ c ∈ r, (isLet c || isDig c) = true) : okL (l ++ r) = true := by
  cases l with
  | nil => cases h
  | cons c l =>
    have h' : (isLet c && (c :: l).all fun c => isLet c || isDig c) = true := h
    rw [Bool.and_eq_true] at h'
    show (isLet c && (c :: (l ++ r)).all fun c => isLet c || isDig c) = true
    rw [h'.1, Bool.true_and, ← List.cons_append, List.all_append, h'.2, Bool.true_and]
    exact List.all_eq_true.mpr hr
theorem okL_take {l : List Nat} {n : Nat} (h : okL l = true) (hn : 0 < n) : okL (l.take n) = true := by
  cases l with
  | nil => cases h
  | cons c l =>
    have h' : (isLet c && (c :: l).all fun c => isLet c || isDig c) = true := h
    rw [Bool.and_eq_true] at h'
    obtain ⟨m, rfl⟩ : ∃ m, n = m + 1 := ⟨n - 1, by omega⟩
    show (isLet c && (c :: l.take m).all fun c => isLet c || isDig c) = true
    rw [h'.1, Bool.true_and, List.all_eq_true]
    intro x hx
    refine List.all_eq_true.mp h'.2 x ?_
    rcases List.mem_cons.mp hx with rfl | hx
    · exact List.mem_cons_self
    · exact List.mem_cons_of_mem _ (List.mem_of_mem_take hx)
theorem name_okL {z : Str} : nameB z = (decide (z.length ≤ 12) && okL z.cps.toList) := by
  unfold nameB
  cases h : z.cps.toList with
  | nil => simp [okL]
  | cons c r => rfl
/-- not zzz9, by its looks -/
def fineL (l : List Nat) : Prop := l.length ≠ 4 ∨ ∃ r c, l = r ++ [c] ∧ c ≤ 52
def mu (l : List Nat) : Nat := if l.length < 12 then l.length else 12 + l.getLastD 0
def cnt (F : List Str) (l : List Nat) : Nat := (F.filter fun y => decide (mu y.cps.toList < mu l)).length
theorem cnt_le (F : List Str) (l : List Nat) : cnt F l ≤ F.length := List.length_filter_le ..
theorem filter_up {α : Type} {p q : α → Bool} (h : ∀ x, p x = true → q x = true) : ∀ l : List α, (l.filter p).length ≤ (l.filter q).length
  | [] => Nat.le_refl _
  | y :: l => by
    have ih := filter_up h l
    by_cases hp : p y = true
    · rw [List.filter_cons_of_pos hp, List.filter_cons_of_pos (h y hp)]
      exact Nat.succ_le_succ ih
    · rw [List.filter_cons_of_neg hp]
      by_cases hq : q y = true
      · rw [List.filter_cons_of_pos hq]
        exact Nat.le_succ_of_le ih
      · rw [List.filter_cons_of_neg hq]
        exact ih
theorem filter_more {α : Type} {p q : α → Bool} (h : ∀ x, p x = true → q x = true) {a : α} (hp : p a = false) (hq : q a = true) : ∀ {l : List α}, a ∈ l → (l.filter p).length + 1 ≤ (l.filter q).length
  | [], hm => nomatch hm
  | y :: l, hm => by
    rcases List.mem_cons.mp hm with rfl | hm
    · rw [List.filter_cons_of_neg (by rw [hp]; decide), List.filter_cons_of_pos hq]
      exact Nat.succ_le_succ (filter_up h l)
    · have ih := filter_more h hp hq hm
      by_cases hp' : p y = true
      · rw [List.filter_cons_of_pos hp', List.filter_cons_of_pos (h y hp')]
        exact Nat.succ_le_succ ih
      · rw [List.filter_cons_of_neg hp']
        by_cases hq' : q y = true
        · rw [List.filter_cons_of_pos hq']
          exact Nat.le_succ_of_le ih
        · rw [List.filter_cons_of_neg hq']
          exact ih
theorem cnt_up {F : List Str} {z : Str} {l : List Nat} (hm : z ∈ F) (h : mu z.cps.toList < mu l) : cnt F z.cps.toList + 1 ≤ cnt F l :=
  filter_more (p := fun y : Str => decide (mu y.cps.toList < mu z.cps.toList)) (q := fun y : Str => decide (mu y.cps.toList < mu l)) (a := z) (fun x hx => by
    have h1 : mu x.cps.toList < mu z.cps.toList := of_decide_eq_true hx
    exact decide_eq_true (by omega)) (decide_eq_false (Nat.lt_irrefl _)) (decide_eq_true h) hm
/-- the name, k signs tried -/
def SgI (F : List Str) (k : Nat) (z : Str) : Prop := okL z.cps.toList = true ∧ z.length ≤ 12 ∧ fineL z.cps.toList ∧ (k = 0 ∨ z ∉ F ∨ (1 ≤ k ∧ (∃ r, z.cps.toList = r ++ [47 + k]) ∧ k - 1 ≤ cnt F z.cps.toList))
theorem sg_next {F : List Str} {k : Nat} {z y : Str} (hF : F.length ≤ 4) (hk : k < 10) (h : SgI F k z) (hm : z ∈ F) (hy : y.cps.toList = z.cps.toList.take 11 ++ [48 + k]) : SgI F (k + 1) y := by
  obtain ⟨h1, h2, h3, h4⟩ := h
  have lz : z.cps.toList.length ≤ 12 := by
    rw [Array.length_toList]
    exact h2
  have lenY : y.cps.toList.length = min 11 z.cps.toList.length + 1 := by
    rw [hy, List.length_append, List.length_take]
    rfl
  have dig : (isLet (48 + k) || isDig (48 + k)) = true := by
    have : ∀ k, k < 10 → (isLet (48 + k) || isDig (48 + k)) = true := by decide +kernel
    exact this k hk
  have hc : k ≤ cnt F y.cps.toList := by
    rcases h4 with rfl | h4 | ⟨k1, ⟨r, hr⟩, h5⟩
    · exact Nat.zero_le _
    · exact absurd hm h4
    · have e : mu z.cps.toList < mu y.cps.toList := by
        unfold mu
        have l2 : y.cps.toList.getLastD 0 = 48 + k := by
          rw [hy]
          simp
        have l1 : z.cps.toList.getLastD 0 = 47 + k := by
          rw [hr]
          simp
        rw [l1, l2, lenY]
        split <;> split <;> omega
      have := cnt_up hm e
      omega
  have hc4 : k ≤ 4 := Nat.le_trans hc (Nat.le_trans (cnt_le ..) hF)
  refine ⟨?_, ?_, .inr ⟨_, _, hy, by omega⟩, .inr (.inr ⟨by omega, ⟨z.cps.toList.take 11, by rw [hy]; congr 2; omega⟩, by omega⟩)⟩
  · rw [hy]
    refine okL_app (okL_take h1 (by omega)) fun c hc => ?_
    rw [List.mem_singleton.mp hc]
    exact dig
  · show y.cps.size ≤ 12
    rw [← Array.length_toList, lenY]
    omega
theorem sg_stay {F : List Str} {k : Nat} {z : Str} (h : SgI F k z) (hm : z ∉ F) : SgI F (k + 1) z := ⟨h.1, h.2.1, h.2.2.1, .inr (.inl hm)⟩
theorem sg_end {F : List Str} {z : Str} (hF : F.length ≤ 4) (h : SgI F 10 z) : z ∉ F := by
  obtain ⟨_, _, _, h | h | ⟨_, _, h⟩⟩ := h
  · cases h
  · exact h
  · have := cnt_le F z.cps.toList
    omega
/-- what the names are -/
def NmOk (z : Str) : Prop := nameB z = true ∧ z ≠ "zzz9"
theorem nm_of {F : List Str} {k : Nat} {z : Str} (h : SgI F k z) : NmOk z := by
  obtain ⟨h1, h2, h3, _⟩ := h
  refine ⟨by rw [name_okL, h1, decide_eq_true h2]; rfl, fun e => ?_⟩
  subst e
  rcases h3 with h | ⟨r, c, h, hc⟩
  · exact h rfl
  · have e1 := congrArg (fun l => l.getLastD 0) h
    simp at e1
    have : c = 57 := by
      rw [← e1]
      decide +kernel
    omega
end K04
namespace K04
open PySem PySem.Spec PyProof.Rows L2 BW
theorem cut_take (z : Str) (k : Nat) : (cutS z none (some (k : Int))).cps.toList = z.cps.toList.take k := by
  show ((z.cps.toList.drop (HT.sIx z.length 0 none)).take (HT.sIx z.length z.length (some (k : Int)) - HT.sIx z.length 0 none)) = _
  have h0 : HT.sIx z.length 0 none = 0 := rfl
  have h1 : HT.sIx z.length z.length (some (k : Int)) = min k z.length := HT.sIx_nat _ _ _
  rw [h0, h1, List.drop_zero, Nat.sub_zero]
  by_cases h : k ≤ z.length
  · rw [Nat.min_eq_left h]
  · rw [Nat.min_eq_right (by omega), List.take_of_length_le (by rw [Array.length_toList]; exact Nat.le_refl _), List.take_of_length_le (by rw [Array.length_toList]; show z.length ≤ k; omega)]

def Nms (ys : List Str) (m : Nat) : Prop := ys.length = m ∧ (∀ z ∈ ys, NmOk z) ∧ ys.Nodup ∧ sortedS ys = true
def spNames : Sp := fun vs H Q _ => ∃ (p L : Addr) (n m : Nat), vs = [.ref p, .int (m : Int)] ∧ PenL H p L n ∧ n + 80 ≤ 100000 ∧ m ≤ 5 ∧
  ∀ a ys H', Kp p H H' → PenL H' p L (n + 80) → a ≠ p → H' a = some (.lst (ys.map V.str)) → Nms ys m → Q (.ref a) H'
theorem rv_inL {K : PySem.W.Frag} {H : Hp} {c : Addr} {z : Str} {cs : List Str} (h : SqL K H c (cs.map V.str)) : Evl.RV (rIn K false) (.str z) (.ref c) H (.bl (decide (z ∈ cs))) := fun H1 e Q q =>
  ⟨c, _, rfl, .inl (Evl.ex_l e h), rfl, by rw [List.all_map]; exact List.all_eq_true.mpr fun _ _ => rfl, by
    rw [if_neg Bool.false_ne_true, inV_names]
    exact q H1 (Evl.Ex.refl H1)⟩
def CntW : Wd := fun v _ => ∃ i : Nat, v = .int (i : Int) ∧ i ≤ 11 ∧ i ≠ 3
theorem mon_cnt : Mon CntW := fun _ _ _ _ h => h
/-- one sign of a text -/
def SignW (z : Str) : Wd := fun v _ => ∃ c, v = .str ⟨#[c]⟩ ∧ c ∈ z.cps.toList
theorem mon_sign {z : Str} : Mon (SignW z) := fun _ _ _ _ h => h
section
variable {P : Program} {w : World} {K : PySem.W.Frag} {mg : Str → Option Value} {base : Heap} {p L : Addr}
theorem ed_signs {σ : L2.St} {H : Hp} {z : Str} {n : Nat} (hl : z.length ≤ 1000) (hn : z.length = n) : Evd p L (tCB rListStr (tCons (tC (.str z)) tNil)) σ H 0 (fun v G => ∃ a vs, v = .ref a ∧ G a = some (.lst vs) ∧ vs.length = n ∧ ∀ x ∈ vs, SignW z x G) := fun H1 k n0 pn _ Q q =>
  el_listStr Evl.ev_c hl H1 (Evl.Ex.refl H1) Q fun a H2 na e ha => q _ H2 (Same.kp e) (pn.same e) ⟨a, _, rfl, hide_at (pn.ne na).1 ha, by
    show (z.cps.toList.map _).length = n
    rw [List.length_map, Array.length_toList]
    exact hn, fun x hx => by
    obtain ⟨c, hc, rfl⟩ := List.mem_map.mp hx
    exact ⟨c, rfl, hc⟩⟩
theorem ed_ints {σ : L2.St} {H : Hp} : Evd p L (tLst (tCons (tC (.int 0)) (tCons (tC (.int 0)) (tCons (tC (.int 1)) (tCons (tC (.int 1)) (tCons (tC (.int 2)) (tCons (tC (.int 11)) tNil))))))) σ H 0 (fun v G => ∃ a vs, v = .ref a ∧ G a = some (.lst vs) ∧ vs.length = 6 ∧ ∀ x ∈ vs, CntW x G) :=
  ed_lstP mon_cnt (by decide) (eda_cons mon_cnt (ed_c fun _ => ⟨0, rfl, by decide, by decide⟩) (eda_cons mon_cnt (ed_c fun _ => ⟨0, rfl, by decide, by decide⟩) (eda_cons mon_cnt (ed_c fun _ => ⟨1, rfl, by decide, by decide⟩) (eda_cons mon_cnt (ed_c fun _ => ⟨1, rfl, by decide, by decide⟩) (eda_cons mon_cnt (ed_c fun _ => ⟨2, rfl, by decide, by decide⟩) (eda_cons mon_cnt (ed_c fun _ => ⟨11, rfl, by decide, by decide⟩) eda_nil))))))
theorem q_forRD {te : TE} {σ : L2.St} {H : Hp} {D : Ends} {tu tz : TS} {j m n M : Nat} {C : Nat → Prop} (hM : M ≤ 1000) (h : Evd p L te σ H m (fun v _ => ∃ i : Nat, v = .int (i : Int) ∧ i ≤ M ∧ C i)) (pn : PenL H p L n) (hn : n + m ≤ 100000)
    (k : ∀ c H1, C c → c ≤ M → Kp p H H1 → PenL H1 p L (n + m) → ∃ Pv : Nat → L2.St → Hp → Prop, Pv 0 σ H1 ∧ (∀ i σ G, i < c → Pv i σ G → tu { D with nx := Pv (i + 1), ct := Pv (i + 1), bk := tz D } (σ.set j (some (.int (i : Int)))) G) ∧ ∀ σ G, Pv c σ G → tz D σ G) :
    tSeq (tFor (iRng1 (tCons te tNil)) (gName j) tu) tz D σ H := h H (Kp.refl p H) n pn hn _ fun v H1 k1 p1 hv => by
  obtain ⟨c, rfl, hc, hC⟩ := hv
  obtain ⟨Pv, h0, hs, hd⟩ := k c H1 hC hc k1 p1
  refine ⟨(c : Int), rfl, by omega, by omega, for_range (lo := 0) (n := (c : Int).toNat) Pv h0 (fun i σ G hi hp => ?_) (fun σ G hp => hd σ G ?_)⟩
  · have e : (0 : Int) + (i : Int) = (i : Int) := Int.zero_add _
    rw [e]
    exact hs i σ G (by omega) hp
  · have e : (c : Int).toNat = c := by omega
    rw [e] at hp
    exact hp
theorem q_forS {w : Str} {σ : L2.St} {H : Hp} {D : Ends} {tu tz : TS} {j : Nat} (Pv : Nat → L2.St → Hp → Prop) (h0 : Pv 0 σ H) (hs : ∀ i c σ G, w.cps[i]? = some c → Pv i σ G → tu { D with nx := Pv (i + 1), ct := Pv (i + 1), bk := tz D } (σ.set j (some (.str ⟨#[c]⟩))) G) (hd : ∀ σ G, Pv w.cps.size σ G → tz D σ G) :
    tSeq (tFor (iStr (tC (.str w))) (gName j) tu) tz D σ H := ⟨w, rfl, for_str (w := w) Pv h0 (fun i c σ G hc hp => hs i c σ G hc hp) hd⟩
theorem scNames : FnScope ["_law_pen_here", "_law_many", "_law_found", "_law_turned", "_law_name", "_law_at", "_law_sign"] ["_law_pen_here", "_law_many"] (defScope sNames) := ⟨rfl, rfl, rfl, by decide +kernel, rfl, by decide +kernel, by decide +kernel⟩
theorem ok_names {f fN : Addr} {fd fdN : FuncData} {k : Nat} (T : Tx mg) (N : Df P w K mg base (k + 1) "_law_pick" ["_law_pen_here", "_law_some"] spPick fN fdN) (F : Fun K "_law_names" "_law_names" sNames f fd) : FnOk P w K mg base CX0 (k + 2) f fd ["_law_pen_here", "_law_many"] spNames := by
  refine F.ok scNames (fun vs H Q E h => ?_) (fun cdv A outer s H vs Q E hr h => ?_)
  · obtain ⟨p, L, n, m, rfl, _⟩ := h
    rfl
  · obtain ⟨p, L, n, m, rfl, hP, hn, hm, q⟩ := h
    have nd := scNames.nd
    refine ⟨_, pss_cons (ps_set (i := 2) nd rfl (.inl rfl) (pe_lst pa_nil))
      (pss_cons (ps_for PassesOwn.never rfl (pi_range1 (by rfl) T.rng (pa_cons (pv 1) pa_nil)) (pg_name (i := 3) nd rfl (.inl rfl))
        (pss_cons (ps_set (i := 4) nd rfl (.inl rfl) (pe_df N hr (pa_cons (pv 0) (pa_cons (pe_callTy (cr_listStr rfl) (by rfl) T.list (by decide +kernel) (pa_cons pe_str pa_nil)) pa_nil))))
        (pss_cons (ps_for PassesOwn.never rfl (pi_range1 (by rfl) T.rng (pa_cons (pe_df N hr (pa_cons (pv 0) (pa_cons (pe_lst (pa_cons pe_int (pa_cons pe_int (pa_cons pe_int (pa_cons pe_int (pa_cons pe_int (pa_cons pe_int pa_nil))))))) pa_nil))) pa_nil)) (pg_name (i := 5) nd rfl (.inl rfl))
            (pss_one (ps_set (i := 4) nd rfl (.inl rfl) (pe_op op_add_str (pv 4) (pe_df N hr (pa_cons (pv 0) (pa_cons (pe_callTy (cr_listStr rfl) (by rfl) T.list (by decide +kernel) (pa_cons pe_str pa_nil)) pa_nil)))))))
        (pss_cons (ps_for PassesOwn.never rfl (pi_str pe_str) (pg_name (i := 6) nd rfl (.inl rfl))
            (pss_one (ps_if (pt_cmpR op_in_seq (pv 4) (pv 2) (by rfl)) (pss_one (ps_set (i := 4) nd rfl (.inl rfl) (pe_op op_add_str (pe_slice sl_str (pv 4) po_none (po_some pe_int)) (pv 6)))) pss_nil)))
        (pss_one (ps_expr (pe_bm PySem.F.plainAttrs_list PySem.F.slot_list_append PySem.F.type_list_append mt_append (pv 2) (pa_cons (pv 4) pa_nil))))))))
      (pss_one (ps_ret (pe_callB cr_sortedS (by rfl) T.srt (by decide +kernel) (pa_cons (pv 2) pa_nil))))), ?_⟩
    refine ⟨Nat.zero_le _, fun fa nfa => ?_⟩
    have nfe := hP.ne nfa
    have kfa : Kp p H (upd H fa (.lst [])) := Same.kp (same_new nfa)
    refine ⟨.int (m : Int), rfl, (m : Int), rfl, by omega, by omega, for_range (lo := 0) (n := (m : Int).toNat) (fun i σ G => ∃ (fs : List Str) (o3 o4 o5 o6 : Option V), σ = [some (.ref p), some (.int (m : Int)), some (.ref fa), o3, o4, o5, o6] ∧ G fa = some (.lst (fs.map V.str)) ∧ fs.length = i ∧ fs.Nodup ∧ (∀ z ∈ fs, NmOk z) ∧ Kp p H G ∧ PenL G p L (n + 13 * i)) ?_ ?_ ?_⟩
    · exact ⟨[], none, none, none, none, rfl, upd_same, rfl, List.nodup_nil, fun z h => (nomatch h), kfa, hP.same (same_new nfa)⟩
    · rintro i σ G hi ⟨fs, o3, o4, o5, o6, rfl, hf, hl, hnd, hok, kG, pG⟩
      have hi5 : i < 5 := by omega
      refine q_asgD (ed_pickC (P := SignW letters) mon_sign (i := 0) rfl ⟨by decide, by decide⟩ (ed_signs (n := 26) (by decide +kernel) (by decide +kernel))) pG (by omega) fun v H1 k1 p1 hv => ?_
      obtain ⟨c, rfl, hc⟩ := hv
      refine q_forRD (M := 11) (C := fun i => i ≠ 3) (by decide) (ed_pickC (P := CntW) mon_cnt (i := 0) rfl ⟨by decide, by decide⟩ ed_ints) p1 (by omega) fun c2 H2 hC2 hc2 k2 p2 => ?_
      have hf2 : H2 fa = some (.lst (fs.map V.str)) := k2 _ _ nfe.1 (k1 _ _ nfe.1 hf)
      refine ⟨fun j σ G => ∃ (z : Str) (o5 : Option V), σ = [some (.ref p), some (.int (m : Int)), some (.ref fa), some (.int ((0 : Int) + (i : Int))), some (.str z), o5, o6] ∧ okL z.cps.toList = true ∧ z.length = 1 + j ∧ G fa = some (.lst (fs.map V.str)) ∧ Kp p H G ∧ PenL G p L (n + 13 * i + 2 + j), ?_, ?_, ?_⟩
      · refine ⟨_, _, rfl, ?_, rfl, hf2, kG.trans (k1.trans k2), p2.up (by omega)⟩
        show (isLet c && [c].all fun c => isLet c || isDig c) = true
        have e : isLet c = true := decide_eq_true hc
        rw [List.all_cons, e]
        rfl
      · rintro j σ G3 hj ⟨z, o5, rfl, hz, hzl, hf3, k3, p3⟩
        refine ⟨.str z, rfl, ?_⟩
        refine ed_pickC (P := SignW "abcdefghijklmnopqrstuvwxyz0123456789") mon_sign (i := 0) rfl ⟨by decide, by decide⟩ (ed_signs (n := 36) (by decide +kernel) (by decide +kernel)) G3 (Kp.refl _ _) _ p3 (by omega) _ fun v H4 k4 p4 hv => ?_
        obtain ⟨c, rfl, hc⟩ := hv
        refine ⟨z, ⟨#[c]⟩, rfl, rfl, Evl.sz_of (by show z.length + 1 ≤ 100000; omega), z ++ ⟨#[c]⟩, _, rfl, ?_, ?_, k4 _ _ nfe.1 hf3, k3.trans k4, p4.up (by omega)⟩
        · rw [str_app, Array.toList_append]
          refine okL_app hz fun c' hc' => ?_
          rw [List.mem_singleton.mp hc']
          have : ∀ c ∈ ("abcdefghijklmnopqrstuvwxyz0123456789" : Str).cps.toList, (isLet c || isDig c) = true := by decide +kernel
          exact this c hc
        · rw [str_len, hzl]
          show 1 + j + 1 = _
          omega
      · rintro σ G3 ⟨z, o5, rfl, hz, hzl, hf3, k3, p3⟩
        refine q_forS (fun k σ G => ∃ (y : Str) (o6 : Option V), σ = [some (.ref p), some (.int (m : Int)), some (.ref fa), some (.int ((0 : Int) + (i : Int))), some (.str y), o5, o6] ∧ SgI fs k y ∧ Evl.Ex G3 G) ⟨z, o6, rfl, ⟨hz, by omega, .inl (by rw [Array.length_toList]; show z.length ≠ 4; omega), .inl rfl⟩, Evl.Ex.refl _⟩ (fun k c σ G hc hy => ?_) (fun σ G hy => ?_)
        · obtain ⟨y, o6, rfl, hS, e3⟩ := hy
          have hk : k < 10 := (Array.getElem?_eq_some_iff.mp hc).1
          have hc2 : c = 48 + k := by
            have : ∀ k, k < 10 → ("0123456789" : Str).cps[k]? = some (48 + k) := by decide +kernel
            rw [this k hk] at hc
            exact (Option.some.inj hc).symm
          refine Evl.s_when (b := decide (y ∈ fs)) (Evl.et_test (Evl.ev_op (Evl.ev_var rfl) (Evl.ev_var rfl) (rv_inL (Evl.sq_of (e3 _ _ hf3))))) (fun hb G4 e4 => ?_) (fun hb G4 e4 => ?_)
          · have ylen := hS.2.1
            have tk := cut_take y 11
            refine ⟨.str y, rfl, 11, rfl, y, rfl, Evl.sz_of (by omega), .str ⟨#[c]⟩, rfl, cutS y none (some 11), ⟨#[c]⟩, rfl, rfl, Evl.sz_of ?_, cutS y none (some 11) ++ ⟨#[c]⟩, _, rfl, sg_next (by omega) hk hS (of_decide_eq_true hb) ?_, e3.trans e4⟩
            · have h := congrArg List.length tk
              rw [Array.length_toList, List.length_take] at h
              have h' : (cutS y none (some 11)).length = min 11 y.cps.toList.length := h
              show (cutS y none (some 11)).length + 1 ≤ 100000
              omega
            · rw [str_app, Array.toList_append, ← hc2]
              exact congrArg (· ++ [c]) tk
          · exact ⟨y, _, rfl, sg_stay hS (of_decide_eq_false hb), e3.trans e4⟩
        · obtain ⟨y, o6, rfl, hS, e3⟩ := hy
          have hS' : SgI fs 10 y := hS
          have hny := sg_end (by omega) hS'
          have hfG := e3 _ _ hf3
          refine Evl.s_app hfG (Evl.ev_var rfl) (Evl.ev_var rfl) (by rw [List.length_map]; omega) fun G4 e4 => ?_
          refine ⟨fs ++ [y], _, _, _, _, rfl, ?_, by rw [List.length_append, hl]; rfl, ?_, ?_, ?_, ?_⟩
          · rw [List.map_append]
            exact upd_same
          · rw [List.nodup_append]
            refine ⟨hnd, by simp, fun a ha b hb => ?_⟩
            rw [List.mem_singleton.mp hb]
            rintro rfl
            exact hny ha
          · intro z' hz'
            rcases List.mem_append.mp hz' with h | h
            · exact hok z' h
            · rw [List.mem_singleton.mp h]
              exact nm_of hS'
          · intro b o nb hb
            rw [upd_ne (ne_of_none hb nfa)]
            exact (e3.trans e4) _ _ (k3 b o nb hb)
          · have e : n + 13 * (i + 1) = n + 13 * i + 2 + 11 := by omega
            rw [e]
            exact ((p3.same (e3.trans e4)).up (by omega)).over nfe
    · rintro σ G ⟨fs, o3, o4, o5, o6, rfl, hf, hl, hnd, hok, kG, pG⟩
      refine ⟨.ref fa, rfl, fa, fs, rfl, Evl.sq_of hf, by omega, fun ys a pm srt na => ?_⟩
      have ea := same_new (o := .lst (ys.map V.str)) na
      have hm' : ((m : Int).toNat) = m := by omega
      refine q a ys _ (kG.trans (Same.kp ea)) ((pG.up (by omega)).same ea) (pG.ne na).1 upd_same ⟨by rw [pm.length_eq, hl, hm'], fun z hz => hok z (pm.mem_iff.mp hz), pm.nodup_iff.mpr hnd, srt⟩
end
end K04
namespace K04
open PySem PySem.Spec PyProof.Rows L2 BW
def dr : Nat → Nat
  | 0 => 1
  | d + 1 => 2 + 2 * dr d
def spTree (d : Nat) : Sp := fun vs H Q _ => ∃ (p L a : Addr) (n : Nat) (ys : List Str), vs = [.ref p, .ref a, .int (d : Int)] ∧ PenL H p L n ∧ n + dr d ≤ 100000 ∧ a ≠ p ∧ H a = some (.lst (ys.map V.str)) ∧ ys ≠ [] ∧ ys.length ≤ 100 ∧
  ∀ t v H', Kp p H H' → PenL H' p L (n + dr d) → t.depth ≤ d → t.All (fun z => z ∈ ys) → TreeAt (hide p H') t v → Q v H'
def SgW : Wd := fun v _ => ∃ s : Sg, v = .str s.str
theorem mon_sg : Mon SgW := fun _ _ _ _ h => h
section
variable {P : Program} {w : World} {K : PySem.W.Frag} {mg : Str → Option Value} {base : Heap} {p L : Addr}
theorem ed_sgs {σ : L2.St} {H : Hp} : Evd p L (tLst (tCons (tC (.str "+")) (tCons (tC (.str "*")) (tCons (tC (.str "-")) tNil)))) σ H 0 (fun v G => ∃ a vs, v = .ref a ∧ G a = some (.lst vs) ∧ vs.length = 3 ∧ ∀ x ∈ vs, SgW x G) :=
  ed_lstP mon_sg (by decide) (eda_cons mon_sg (ed_c fun _ => ⟨.plus, rfl⟩) (eda_cons mon_sg (ed_c fun _ => ⟨.star, rfl⟩) (eda_cons mon_sg (ed_c fun _ => ⟨.minus, rfl⟩) eda_nil)))
theorem scTree : FnScope ["_law_pen_here", "_law_names_here", "_law_most", "_law_sign", "_law_one"] ["_law_pen_here", "_law_names_here", "_law_most"] (defScope sTree) := ⟨rfl, rfl, rfl, by decide +kernel, rfl, by decide +kernel, by decide +kernel⟩
theorem tree_step {f fN fD : Addr} {fd fdN fdD : FuncData} {k kk d : Nat} {sub : Sp} (N : Df P w K mg base (k + 1) "_law_pick" ["_law_pen_here", "_law_some"] spPick fN fdN) (DR : Df P w K mg base (k + 1) "_law_draw" ["_law_pen_here", "_law_many"] spDraw fD fdD)
    (S : Df P w K mg base kk "_law_tree" ["_law_pen_here", "_law_names_here", "_law_most"] sub f fd) (le : k + 1 ≤ kk) (hsub : ∀ c, d = c + 1 → sub = spTree c) (F : Fun K "_law_tree" "_law_tree" sTree f fd) : FnOk P w K mg base CX0 (kk + 1) f fd ["_law_pen_here", "_law_names_here", "_law_most"] (spTree d) := by
  refine F.ok scTree (fun vs H Q E h => ?_) (fun cdv A outer s H vs Q E hr h => ?_)
  · obtain ⟨p, L, a, n, ys, rfl, _⟩ := h
    rfl
  · obtain ⟨p, L, a, n, ys, rfl, hP, hn, na, ha, hy, hl, q⟩ := h
    have nd := scTree.nd
    have hr1 := hr.mono le
    refine ⟨_, pss_cons (ps_if (PW.pt (pw_or (pt_cmpR op_eq (pv 2) pe_int (nomark _)) (pw_or1 (pt_cmpR op_eq (pe_df DR hr1 (pa_cons (pv 0) (pa_cons pe_int pa_nil))) pe_int (nomark _))))) (pss_one (ps_ret (pe_df N hr1 (pa_cons (pv 0) (pa_cons (pv 1) pa_nil))))) pss_nil)
      (pss_cons (ps_par (i := 3) (j := 4) (by rfl) nd rfl rfl (by decide) rfl rfl (pa_cons (pe_df N hr1 (pa_cons (pv 0) (pa_cons (pe_lst (pa_cons pe_str (pa_cons pe_str (pa_cons pe_str pa_nil)))) pa_nil))) (pa_cons (pe_df S hr (pa_cons (pv 0) (pa_cons (pv 1) (pa_cons (pe_op op_sub (pv 2) pe_int) pa_nil)))) pa_nil)) (by rfl))
      (pss_one (ps_ret (pe_tup (pa_cons (pv 3) (pa_cons (pv 4) (pa_cons (pe_df S hr (pa_cons (pv 0) (pa_cons (pv 1) (pa_cons (pe_op op_sub (pv 2) pe_int) pa_nil)))) pa_nil))))))), ?_⟩
    have leaf : ∀ {n' : Nat} {G : Hp} {σ : L2.St} {D : Ends}, D.rt = Q → σ[0]? = some (some (.ref p)) → σ[1]? = some (some (.ref a)) → Kp p H G → PenL G p L n' → n' + 1 ≤ n + dr d → tRet (tCall spPick [] E0 (tCons (tVar 0) (tCons (tVar 1) tNil))) D σ G := fun {n' G σ D} hD h0 h1 k pn le => by
      delta tRet
      rw [hD]
      refine ⟨.ref p, h0, .ref a, h1, p, L, a, n', _, rfl, pn, by omega, na, k _ _ na ha, (fun z => hy (List.map_eq_nil_iff.mp z)), by rw [List.length_map]; omega, fun x H' hx k2 p2 => ?_⟩
      obtain ⟨z, hz, rfl⟩ := List.mem_map.mp hx
      exact q (.leaf z) _ H' (k.trans k2) (p2.up le) (Nat.zero_le _) hz rfl
    refine ⟨.int (d : Int), rfl, rfl, _, rfl, ?_⟩
    cases d with
    | zero => exact iteT (iteT (leaf rfl rfl rfl (Kp.refl _ _) hP (by show n + 1 ≤ n + 1; omega)))
    | succ c =>
      obtain rfl := hsub c rfl
      refine iteF ?_
      have hdr : dr (c + 1) = 2 + 2 * dr c := rfl
      refine ed_drawC (M := 3) (i := 0) rfl (by decide) (by decide) H (Kp.refl _ _) n hP (by omega) _ fun v H1 k1 p1 hv => ?_
      obtain ⟨r, rfl, r0, r1⟩ := hv
      refine ⟨rfl, _, rfl, ite2 (fun _ => leaf rfl rfl rfl k1 p1 (by have : 1 ≤ dr c := (by cases c <;> (show 1 ≤ _; first | exact Nat.le_refl 1 | (show 1 ≤ 2 + _; omega))); omega)) (fun _ => ?_)⟩
      refine ed_pickC (P := SgW) mon_sg (i := 0) rfl ⟨by decide, by decide⟩ ed_sgs H1 (Kp.refl _ _) _ p1 (by omega) _ fun v H2 k2 p2 hv => ?_
      obtain ⟨s, rfl⟩ := hv
      have k12 := k1.trans k2
      have ei : ((c + 1 : Nat) : Int) - 1 = (c : Int) := by omega
      refine ⟨.ref p, rfl, .ref a, rfl, .int ((c + 1 : Nat) : Int), rfl, _, 1, rfl, rfl, p, L, a, n + 1 + 1, ys, congrArg (fun x => [V.ref p, V.ref a, V.int x]) ei, p2, by omega, na, k12 _ _ na ha, hy, hl, fun t v H3 k3 p3 d3 a3 t3 => ?_⟩
      refine ⟨.str s.str, v, rfl, ?_⟩
      have k13 := k12.trans k3
      refine ⟨.str s.str, rfl, v, rfl, .ref p, rfl, .ref a, rfl, .int ((c + 1 : Nat) : Int), rfl, _, 1, rfl, rfl, p, L, a, n + 1 + 1 + dr c, ys, congrArg (fun x => [V.ref p, V.ref a, V.int x]) ei, p3, by omega, na, k13 _ _ na ha, hy, hl, fun t2 v2 H4 k4 p4 d4 a4 t4 => ?_⟩
      refine ⟨(by show 3 ≤ sizeLine; decide), fun b nb => ?_⟩
      have eb := same_new (o := .tup [.str s.str, v, v2]) nb
      have kb := Same.kp (p := p) eb
      refine q (.node s t t2) _ _ ((k13.trans k4).trans kb) ((p4.up (by omega)).same eb) ?_ ⟨a3, a4⟩ ⟨b, v, v2, rfl, hide_at (p4.ne nb).1 upd_same, (t3.mono (hide_kp k4)).mono (hide_kp kb), t4.mono (hide_kp kb)⟩
      show 1 + max t.depth t2.depth ≤ c + 1
      omega
theorem ok_tree {f fN fD : Addr} {fd fdN fdD : FuncData} {k : Nat} (N : Df P w K mg base (k + 1) "_law_pick" ["_law_pen_here", "_law_some"] spPick fN fdN) (DR : Df P w K mg base (k + 1) "_law_draw" ["_law_pen_here", "_law_many"] spDraw fD fdD)
    (b : Binds K fd ["_law_pen_here", "_law_names_here", "_law_most"] []) (g : mg "_law_tree" = some (.ref f)) (kp : PySem.W.keepIn K (.ref f) = true) (F : Fun K "_law_tree" "_law_tree" sTree f fd) :
    ∀ d, FnOk P w K mg base CX0 (k + 2 + d) f fd ["_law_pen_here", "_law_names_here", "_law_most"] (spTree d)
  | 0 => tree_step N DR ⟨fn_false, b, g, kp⟩ (Nat.le_refl _) (fun c h => nomatch h) F
  | d + 1 => tree_step N DR ⟨ok_tree N DR b g kp F d, b, g, kp⟩ (by show k + 1 ≤ k + 2 + d; omega) (fun c h => by cases h; rfl) F
end
end K04
namespace K04
open PySem PySem.Spec PyProof.Rows L2 BW LamX
abbrev sMadeT : Stmt := topS 34
abbrev sSaid : Stmt := topS 35
abbrev sLands : Stmt := topS 36
abbrev sOver : Stmt := topS 37
abbrev sDepth : Stmt := topS 41
def TrN (t : Tr) : Prop := t.All fun z => nameB z = true
theorem name_len {z : Str} (h : nameB z = true) : z.length ≤ 12 := by
  rw [name_okL, Bool.and_eq_true] at h
  exact of_decide_eq_true h.1
def _root_.BW.Tr.isLeaf : Tr → Bool
  | .leaf _ => true
  | .node _ _ _ => false
section
variable {P : Program} {w : World} {K : PySem.W.Frag} {mg : Str → Option Value} {base : Heap} {p L : Addr} {r : RC} {CB : Addr}
theorem tree_knd {H : Hp} {t : Tr} {v : V} (h : TreeAt H t v) (ht : TrN t) : ∃ T, Knd H v T ∧ kitB T "str" = some t.isLeaf := by
  cases t with
  | leaf z =>
    cases h
    have hz : z.length ≤ 1000 := Nat.le_trans (name_len ht) (by decide)
    exact ⟨_, .str hz, kd_str (H := H) (.str hz)⟩
  | node s a b =>
    obtain ⟨p, x, y, rfl, hp, _⟩ := h
    exact ⟨_, .tup hp, kd_str (.tup hp)⟩
theorem ev_isT {σ : L2.St} {H : Hp} {t : Tr} {v : V} {i : Nat} (hσ : σ[i]? = some (some v)) (h : TreeAt H t v) (ht : TrN t) : Evl.Ev (tCB (rIsi K) (tCons (tVar i) (tCons (tC (.ty "str")) tNil))) σ H (.bl t.isLeaf) := by
  obtain ⟨T, kd, e⟩ := tree_knd h ht
  exact ev_isi (Evl.ev_var hσ) kd e
theorem node_at {σ : L2.St} {H : Hp} {s : Sg} {a b : Tr} {v : V} {i : Nat} (hσ : σ[i]? = some (some v)) (h : TreeAt H (.node s a b) v) : ∃ x y, TreeAt H a x ∧ TreeAt H b y ∧ Evl.Ev (tOp (rIxT K) (tVar i) (tC (.int 0))) σ H (.str s.str) ∧ Evl.Ev (tOp (rIxT K) (tVar i) (tC (.int 1))) σ H x ∧ Evl.Ev (tOp (rIxT K) (tVar i) (tC (.int 2))) σ H y := by
  obtain ⟨p, x, y, rfl, hp, ha, hb⟩ := h
  exact ⟨x, y, ha, hb, Evl.ev_op (Evl.ev_var hσ) Evl.ev_c (Evl.rv_ixT (Evl.st_of hp) (atI_nat (j := 0) rfl)), Evl.ev_op (Evl.ev_var hσ) Evl.ev_c (Evl.rv_ixT (Evl.st_of hp) (atI_nat (j := 1) rfl)), Evl.ev_op (Evl.ev_var hσ) Evl.ev_c (Evl.rv_ixT (Evl.st_of hp) (atI_nat (j := 2) rfl))⟩
/-! ### depth -/
def spDepth (d : Nat) : Sp := fun vs H Q _ => ∃ (v : V) (t : Tr), vs = [v] ∧ TreeAt H t v ∧ TrN t ∧ t.depth ≤ d ∧ Evl.RetV (.int (t.depth : Nat)) H Q
theorem scDepth : FnScope ["_law_tree_here"] ["_law_tree_here"] (defScope sDepth) := ⟨rfl, rfl, rfl, by decide +kernel, rfl, by decide +kernel, by decide +kernel⟩
theorem depth_step {f : Addr} {fd : FuncData} {kk d : Nat} {sub : Sp} (T : Tx mg) (S : Df P w K mg base kk "_law_depth" ["_law_tree_here"] sub f fd) (hsub : ∀ c, d = c + 1 → sub = spDepth c) (F : Fun K "_law_depth" "_law_depth" sDepth f fd) : FnOk P w K mg base CX0 (kk + 1) f fd ["_law_tree_here"] (spDepth d) := by
  refine F.ok scDepth (fun vs H Q E h => ?_) (fun cdv A outer s H vs Q E hr h => ?_)
  · obtain ⟨v, t, rfl, _⟩ := h
    rfl
  · obtain ⟨v, t, rfl, ht, hn, hd, q⟩ := h
    refine ⟨_, pss_one (ps_ret (pe_ifExp (pt_val (pe_callB call_isi (by rfl) T.isi (by decide +kernel) (pa_cons (pv 0) (pa_cons (pe_bltn (v := .ty "str") (by rfl) T.str (by decide +kernel) rfl) pa_nil)))) pe_int
      (pe_op op_add pe_int (pe_callB (call_max2 rfl) (by rfl) T.mx (by decide +kernel) (pa_cons (pe_df S hr (pa_cons (pe_ix ix_tup (pv 0) pe_int (fun _ _ => rfl)) pa_nil)) (pa_cons (pe_df S hr (pa_cons (pe_ix ix_tup (pv 0) pe_int (fun _ _ => rfl)) pa_nil)) pa_nil)))))), ?_⟩
    refine Evl.s_ret (v := .int (t.depth : Nat)) (Evl.ev_if (Evl.et_B (ev_isT rfl ht hn)) (fun hb => ?_) (fun hb => ?_)) fun H1 e => q.go e
    · cases t with
      | leaf z => exact Evl.ev_c
      | node _ _ _ => cases hb
    · cases t with
      | leaf z => cases hb
      | node s a b =>
        have hd' : 1 + max a.depth b.depth ≤ d := hd
        obtain ⟨c, rfl⟩ : ∃ c, d = c + 1 := ⟨d - 1, by omega⟩
        obtain rfl := hsub c rfl
        obtain ⟨x, y, ha, hb, _, e1, e2⟩ := node_at (K := K) (σ := [some v]) (i := 0) rfl ht
        have g1 : Evl.Ev (tCall (spDepth c) [] E0 (tCons (tOp (rIxT K) (tVar 0) (tC (.int 1))) tNil)) [some v] H (.int (a.depth : Nat)) := Evl.ev_call (Evl.ea_cons e1 Evl.ea_nil) fun H1 e Q q _ => ⟨x, a, rfl, ha.mono e, hn.1, by omega, q⟩
        have g2 : Evl.Ev (tCall (spDepth c) [] E0 (tCons (tOp (rIxT K) (tVar 0) (tC (.int 2))) tNil)) [some v] H (.int (b.depth : Nat)) := Evl.ev_call (Evl.ea_cons e2 Evl.ea_nil) fun H1 e Q q _ => ⟨y, b, rfl, hb.mono e, hn.2, by omega, q⟩
        refine Evl.ev_is (Evl.ev_op Evl.ev_c (Evl.ev_cb (z := .int (if ((b.depth : Nat) : Int) > ((a.depth : Nat) : Int) then ((b.depth : Nat) : Int) else ((a.depth : Nat) : Int))) (Evl.ea_cons g1 (Evl.ea_cons g2 Evl.ea_nil)) ?rc) Evl.rv_I0) ?_
        case rc => exact fun H3 e3 Q q => ⟨_, _, rfl, q H3 (Evl.Ex.refl H3)⟩
        show V.int (1 + _) = V.int ((1 + max a.depth b.depth : Nat) : Int)
        congr 1
        split <;> omega
theorem ok_depth {f : Addr} {fd : FuncData} {k : Nat} (T : Tx mg) (b : Binds K fd ["_law_tree_here"] []) (g : mg "_law_depth" = some (.ref f)) (kp : PySem.W.keepIn K (.ref f) = true) (F : Fun K "_law_depth" "_law_depth" sDepth f fd) : ∀ d, FnOk P w K mg base CX0 (k + 1 + d) f fd ["_law_tree_here"] (spDepth d)
  | 0 => depth_step T ⟨fn_false, b, g, kp⟩ (fun c h => nomatch h) F
  | d + 1 => depth_step T ⟨ok_depth T b g kp F d, b, g, kp⟩ (fun c h => by cases h; rfl) F
/-! ### said -/
def spSaid (d : Nat) : Sp := fun vs H Q _ => ∃ (v : V) (t : Tr), vs = [v] ∧ TreeAt H t v ∧ TrN t ∧ t.depth ≤ d ∧ d ≤ 2 ∧ Evl.RetV (.str t.said) H Q
theorem scSaid : FnScope ["_law_tree_here"] ["_law_tree_here"] (defScope sSaid) := ⟨rfl, rfl, rfl, by decide +kernel, rfl, by decide +kernel, by decide +kernel⟩
theorem said_few {t : Tr} (h : TrN t) (hd : t.depth ≤ 2) : t.said.length ≤ 60 := by
  have h1 := said_len (n := 12) (h.imp fun z hz => name_len hz)
  have h2 : 2 ^ t.depth ≤ 2 ^ 2 := Nat.pow_le_pow_right (by omega) hd
  have h3 := Nat.mul_le_mul_left (12 + 4) h2
  omega
theorem rv_cat {x y : Str} {H : Hp} (h : x.length + y.length ≤ 100000) : Evl.RV (fun x y H Q => ∃ i j, x = .str i ∧ y = .str j ∧ i.length + j.length ≤ sizeLine ∧ Q (.str (i ++ j)) H) (.str x) (.str y) H (.str (x ++ y)) := fun H1 _ _ q => ⟨x, y, rfl, rfl, Evl.sz_of h, q H1 (Evl.Ex.refl H1)⟩
theorem said_step {f : Addr} {fd : FuncData} {kk d : Nat} {sub : Sp} (T : Tx mg) (S : Df P w K mg base kk "_law_said" ["_law_tree_here"] sub f fd) (hsub : ∀ c, d = c + 1 → sub = spSaid c) (F : Fun K "_law_said" "_law_said" sSaid f fd) : FnOk P w K mg base CX0 (kk + 1) f fd ["_law_tree_here"] (spSaid d) := by
  refine F.ok scSaid (fun vs H Q E h => ?_) (fun cdv A outer s H vs Q E hr h => ?_)
  · obtain ⟨v, t, rfl, _⟩ := h
    rfl
  · obtain ⟨v, t, rfl, ht, hn, hd, hd2, q⟩ := h
    refine ⟨_, pss_one (ps_ret (pe_ifExp (pt_val (pe_callB call_isi (by rfl) T.isi (by decide +kernel) (pa_cons (pv 0) (pa_cons (pe_bltn (v := .ty "str") (by rfl) T.str (by decide +kernel) rfl) pa_nil)))) (pv 0)
      (pe_op op_add_str (pe_op op_add_str (pe_op op_add_str (pe_op op_add_str (pe_ix ix_tup (pv 0) pe_int (fun _ _ => rfl)) pe_str) (pe_df S hr (pa_cons (pe_ix ix_tup (pv 0) pe_int (fun _ _ => rfl)) pa_nil))) pe_str) (pe_df S hr (pa_cons (pe_ix ix_tup (pv 0) pe_int (fun _ _ => rfl)) pa_nil))))), ?_⟩
    refine Evl.s_ret (v := .str t.said) (Evl.ev_if (Evl.et_B (ev_isT rfl ht hn)) (fun hb => ?_) (fun hb => ?_)) fun H1 e => q.go e
    · cases t with
      | leaf z =>
        cases ht
        exact Evl.ev_var rfl
      | node _ _ _ => cases hb
    · cases t with
      | leaf z => cases hb
      | node s a b =>
        have hd' : 1 + max a.depth b.depth ≤ d := hd
        obtain ⟨c, rfl⟩ : ∃ c, d = c + 1 := ⟨d - 1, by omega⟩
        obtain rfl := hsub c rfl
        have l1 := said_few hn.1 (by omega)
        have l2 := said_few hn.2 (by omega)
        have ls : s.str.length = 1 := by cases s <;> rfl
        have lb : (Str.ofString " ").length = 1 := rfl
        obtain ⟨x, y, ha, hb, e0, e1, e2⟩ := node_at (K := K) (σ := [some v]) (i := 0) rfl ht
        refine Evl.ev_op (Evl.ev_op (Evl.ev_op (Evl.ev_op e0 Evl.ev_c (rv_cat ?_)) (Evl.ev_call (Evl.ea_cons e1 Evl.ea_nil) fun H1 e Q q _ => ⟨x, a, rfl, ha.mono e, hn.1, by omega, by omega, q⟩) (rv_cat ?_)) Evl.ev_c (rv_cat ?_)) (Evl.ev_call (Evl.ea_cons e2 Evl.ea_nil) fun H1 e Q q _ => ⟨y, b, rfl, hb.mono e, hn.2, by omega, by omega, q⟩) (rv_cat ?_)
        all_goals simp only [str_len, ls, lb]; omega
theorem ok_said {f : Addr} {fd : FuncData} {k : Nat} (T : Tx mg) (b : Binds K fd ["_law_tree_here"] []) (g : mg "_law_said" = some (.ref f)) (kp : PySem.W.keepIn K (.ref f) = true) (F : Fun K "_law_said" "_law_said" sSaid f fd) : ∀ d, FnOk P w K mg base CX0 (k + 1 + d) f fd ["_law_tree_here"] (spSaid d)
  | 0 => said_step T ⟨fn_false, b, g, kp⟩ (fun c h => nomatch h) F
  | d + 1 => said_step T ⟨ok_said T b g kp F d, b, g, kp⟩ (fun c h => by cases h; rfl) F
end
end K04
namespace K04
open PySem PySem.Spec PyProof.Rows L2 BW LamX
section
variable {P : Program} {w : World} {K : PySem.W.Frag} {mg : Str → Option Value} {base : Heap} {p L : Addr} {r : RC} {CB : Addr}
theorem q_parA {σ : L2.St} {H : Hp} {D : Ends} {ta : TA} {tz : TS} {i j : Nat} {x y : V} (h : Evl.EvA ta σ H [x, y]) (k : ∀ H1, Evl.Ex H H1 → tz D ((σ.set i (some x)).set j (some y)) H1) : tSeq (tPar i j ta) tz D σ H := h H (Evl.Ex.refl H) _ fun H1 e => ⟨x, y, rfl, k H1 e⟩
/-! ### made -/
def spMadeT (r : RC) (d : Nat) : Sp := fun vs H Q _ => ∃ (v : V) (t : Tr), vs = [v] ∧ TreeAt H t v ∧ TrN t ∧ t.depth ≤ d ∧ d ≤ 2 ∧ ∀ x H', Evl.Ex H H' → RegAt r H' t x → Q x H'
theorem scMadeT : FnScope ["_law_tree_here", "_law_one", "_law_other"] ["_law_tree_here"] (defScope sMadeT) := ⟨rfl, rfl, rfl, by decide +kernel, rfl, by decide +kernel, by decide +kernel⟩
theorem sgn_eq (s u : Sg) : decide (V.str s.str = V.str u.str) = decide (s = u) := by
  cases s <;> cases u <;> decide +kernel
theorem made_step {f : Addr} {fd : FuncData} {k kk d : Nat} {sub : Sp} (T : Tx mg) (G : RgG mg r) (M : Mks P w K mg base r CB k k) (le : k + 1 ≤ kk) (S : Df P w K mg base kk "_law_made" ["_law_tree_here"] sub f fd) (hsub : ∀ c, d = c + 1 → sub = spMadeT r c) (F : Fun K "_law_made" "_law_made" sMadeT f fd) :
    FnOk P w K mg base CX0 (kk + 1) f fd ["_law_tree_here"] (spMadeT r d) := by
  refine F.ok scMadeT (fun vs H Q E h => ?_) (fun cdv A outer s H vs Q E hr h => ?_)
  · obtain ⟨v, t, rfl, _⟩ := h
    rfl
  · obtain ⟨v, t, rfl, ht, hn, hd, hd2, q⟩ := h
    have nd := scMadeT.nd
    have hr1 := hr.mono le
    obtain ⟨fL, dL, mL, oL, bL⟩ := M.L
    obtain ⟨fP, dP, mP, oP, bP⟩ := M.M .plus
    obtain ⟨fS, dS, mS, oS, bS⟩ := M.M .star
    obtain ⟨fM, dM, mM, oM, bM⟩ := M.M .minus
    refine ⟨_, pss_cons (ps_if (pt_val (pe_callB call_isi (by rfl) T.isi (by decide +kernel) (pa_cons (pv 0) (pa_cons (pe_bltn (v := .ty "str") (by rfl) T.str (by decide +kernel) rfl) pa_nil)))) (pss_one (ps_ret (pe_make mL oL hr1 (by rfl) G.gL bL .nil passL (pa_cons (pv 0) pa_nil)))) pss_nil)
      (pss_cons (ps_par (i := 1) (j := 2) (by rfl) nd rfl rfl (by decide) rfl rfl (pa_cons (pe_df S hr (pa_cons (pe_ix ix_tup (pv 0) pe_int (fun _ _ => rfl)) pa_nil)) (pa_cons (pe_df S hr (pa_cons (pe_ix ix_tup (pv 0) pe_int (fun _ _ => rfl)) pa_nil)) pa_nil)) (by rfl))
      (pss_cons (ps_if (pt_cmpR op_eq (pe_ix ix_tup (pv 0) pe_int (fun _ _ => rfl)) pe_str (nomark _)) (pss_one (ps_ret (pe_make mP oP hr1 (by rfl) G.gS bP .nil passL (pa_cons (pv 1) (pa_cons (pv 2) pa_nil))))) pss_nil)
      (pss_one (ps_ret (pe_ifExp (pt_cmpR op_eq (pe_ix ix_tup (pv 0) pe_int (fun _ _ => rfl)) pe_str (nomark _)) (pe_make mS oS hr1 (by rfl) G.gC bS .nil passL (pa_cons (pv 1) (pa_cons (pv 2) pa_nil))) (pe_make mM oM hr1 (by rfl) G.gR bM .nil passL (pa_cons (pv 1) (pa_cons (pv 2) pa_nil)))))))), ?_⟩
    refine Evl.q_when (b := t.isLeaf) (Evl.et_B (ev_isT rfl ht hn)) (fun hb H1 e1 => ?_) (fun hb H1 e1 => ?_)
    · cases t with
      | node _ _ _ => cases hb
      | leaf z =>
        cases ht
        exact rd_mkL (Evl.ea_cons (Evl.ev_var rfl) Evl.ea_nil) (.inl ⟨z, rfl, hn, fun x H' e hR => q x H' (e1.trans e) hR⟩) (fun z' h => by cases h; exact Nat.le_trans (name_len hn) (by decide))
    · cases t with
      | leaf z => cases hb
      | node s a b =>
        have hd' : 1 + max a.depth b.depth ≤ d := hd
        obtain ⟨c, rfl⟩ : ∃ c, d = c + 1 := ⟨d - 1, by omega⟩
        obtain rfl := hsub c rfl
        have ht1 := ht.mono e1
        obtain ⟨x, y, ha, hb, _, g1, g2⟩ := node_at (K := K) (σ := [some v, none, none]) (i := 0) rfl ht1
        refine g1 H1 (Evl.Ex.refl H1) _ fun H2 e2 => ⟨x, a, rfl, ha.mono e2, hn.1, by omega, by omega, fun xa H3 e3 hra => ?_⟩
        refine g2 H3 (e2.trans e3) _ fun H4 e4 => ⟨y, b, rfl, hb.mono ((e2.trans e3).trans e4), hn.2, by omega, by omega, fun xb H5 e5 hrb => ⟨xa, xb, rfl, ?_⟩⟩
        have e15 := (((e1.trans e2).trans e3).trans e4).trans e5
        have hra5 := (hra.mono e4).mono e5
        obtain ⟨_, _, _, _, g0, _, _⟩ := node_at (K := K) (σ := [some v, some xa, some xb]) (i := 0) rfl (ht.mono e15)
        have go : ∀ {H6 : Hp}, Evl.Ex H5 H6 → tMake (r.of s) (spMkM r CB s) [] E0 (tCons (tVar 1) (tCons (tVar 2) tNil)) [some v, some xa, some xb] H6 Q := fun {H6} e6 =>
          rd_mkM (Evl.ea_cons (Evl.ev_var rfl) (Evl.ea_cons (Evl.ev_var rfl) Evl.ea_nil)) (.reg (hra5.mono e6)) (.reg (hrb.mono e6)) (fun t h => by rw [← Option.some.inj h]; omega) (fun t h => by rw [← Option.some.inj h]; omega) (.inr (.inr ⟨a, b, rfl, rfl, .inr ⟨(by show 1 + max a.depth b.depth ≤ 2; omega), fun p H' e hR => q p H' ((e15.trans e6).trans e) hR⟩⟩))
        refine Evl.q_when (b := decide (s = .plus)) (Evl.et_is (Evl.et_test (Evl.ev_op g0 Evl.ev_c (Evl.rv_eq rfl))) (sgn_eq s .plus)) (fun h6 H6 e6 => ?_) (fun h6 H6 e6 => ?_)
        · obtain rfl := of_decide_eq_true h6
          exact go e6
        · have n1 := of_decide_eq_false h6
          obtain ⟨_, _, _, _, g0', _, _⟩ := node_at (K := K) (σ := [some v, some xa, some xb]) (i := 0) rfl (ht.mono (e15.trans e6))
          refine Evl.et_is (b := decide (s = .star)) (Evl.et_test (Evl.ev_op g0' Evl.ev_c (Evl.rv_eq rfl))) (sgn_eq s .star) H6 (Evl.Ex.refl H6) _ fun H7 e7 => ite2 (fun h7 => ?_) (fun h7 => ?_)
          · obtain rfl := of_decide_eq_true h7
            exact go (e6.trans e7)
          · have n2 : ¬ s = .star := fun h => h7 (decide_eq_true h)
            cases s with
            | plus => exact absurd rfl n1
            | star => exact absurd rfl n2
            | minus => exact go (e6.trans e7)
theorem ok_madeT {f : Addr} {fd : FuncData} {k : Nat} (T : Tx mg) (G : RgG mg r) (M : Mks P w K mg base r CB k k) (b : Binds K fd ["_law_tree_here"] []) (g : mg "_law_made" = some (.ref f)) (kp : PySem.W.keepIn K (.ref f) = true) (F : Fun K "_law_made" "_law_made" sMadeT f fd) : ∀ d, FnOk P w K mg base CX0 (k + 2 + d) f fd ["_law_tree_here"] (spMadeT r d)
  | 0 => made_step T G M (Nat.le_refl _) ⟨fn_false, b, g, kp⟩ (fun c h => nomatch h) F
  | d + 1 => made_step T G M (by show k + 1 ≤ k + 2 + d; omega) ⟨ok_madeT T G M b g kp F d, b, g, kp⟩ (fun c h => by cases h; rfl) F
/-! ### over -/
def spOverT (K : PySem.W.Frag) (d : Nat) : Sp := fun vs H Q _ => ∃ (v : V) (t : Tr) (c : Addr) (cs : List Str), vs = [v, .ref c] ∧ TreeAt H t v ∧ TrN t ∧ t.depth ≤ d ∧ SqL K H c (cs.map V.str) ∧ Evl.RetV (.bl (t.over cs)) H Q
theorem scOver : FnScope ["_law_tree_here", "_law_cell", "_law_one", "_law_other"] ["_law_tree_here", "_law_cell"] (defScope sOver) := ⟨rfl, rfl, rfl, by decide +kernel, rfl, by decide +kernel, by decide +kernel⟩
theorem over_step {f : Addr} {fd : FuncData} {kk d : Nat} {sub : Sp} (T : Tx mg) (S : Df P w K mg base kk "_law_over" ["_law_tree_here", "_law_cell"] sub f fd) (hsub : ∀ c, d = c + 1 → sub = spOverT K c) (F : Fun K "_law_over" "_law_over" sOver f fd) :
    FnOk P w K mg base CX0 (kk + 1) f fd ["_law_tree_here", "_law_cell"] (spOverT K d) := by
  refine F.ok scOver (fun vs H Q E h => ?_) (fun cdv A outer s H vs Q E hr h => ?_)
  · obtain ⟨v, t, c, cs, rfl, _⟩ := h
    rfl
  · obtain ⟨v, t, l, cs, rfl, ht, hn, hd, hc, q⟩ := h
    have nd := scOver.nd
    refine ⟨_, pss_cons (ps_if (pt_val (pe_callB call_isi (by rfl) T.isi (by decide +kernel) (pa_cons (pv 0) (pa_cons (pe_bltn (v := .ty "str") (by rfl) T.str (by decide +kernel) rfl) pa_nil)))) (pss_one (ps_ret (pe_cmpR op_in_seq (pv 0) (pv 1) (by rfl)))) pss_nil)
      (pss_cons (ps_par (i := 2) (j := 3) (by rfl) nd rfl rfl (by decide) rfl rfl (pa_cons (pe_df S hr (pa_cons (pe_ix ix_tup (pv 0) pe_int (fun _ _ => rfl)) (pa_cons (pv 1) pa_nil))) (pa_cons (pe_df S hr (pa_cons (pe_ix ix_tup (pv 0) pe_int (fun _ _ => rfl)) (pa_cons (pv 1) pa_nil))) pa_nil)) (by rfl))
      (pss_cons (ps_if (pt_cmpR op_eq (pe_ix ix_tup (pv 0) pe_int (fun _ _ => rfl)) pe_str (nomark _)) (pss_one (ps_ret (pe_or (pv 2) (pe_one (pv 3))))) pss_nil)
      (pss_one (ps_ret (pe_ifExp (pt_cmpR op_eq (pe_ix ix_tup (pv 0) pe_int (fun _ _ => rfl)) pe_str (nomark _)) (pe_and (pv 2) (pe_one (pv 3))) (pe_and (pv 2) (pe_one (pe_not (pv 3))))))))), ?_⟩
    refine Evl.q_when (b := t.isLeaf) (Evl.et_B (ev_isT rfl ht hn)) (fun hb H1 e1 => ?_) (fun hb H1 e1 => ?_)
    · cases t with
      | node _ _ _ => cases hb
      | leaf z =>
        cases ht
        exact Evl.s_ret (Evl.ev_op (Evl.ev_var rfl) (Evl.ev_var rfl) (rv_inL (Evl.ex_l e1 hc))) fun H2 e2 => q.go (e1.trans e2)
    · cases t with
      | leaf z => cases hb
      | node s a b =>
        have hd' : 1 + max a.depth b.depth ≤ d := hd
        obtain ⟨c, rfl⟩ : ∃ c, d = c + 1 := ⟨d - 1, by omega⟩
        obtain rfl := hsub c rfl
        obtain ⟨x, y, ha, hb, _, g1, g2⟩ := node_at (K := K) (σ := [some v, some (.ref l), none, none]) (i := 0) rfl (ht.mono e1)
        have c1 : Evl.EvA (tCons (tCall (spOverT K c) [] E0 (tCons (tOp (rIxT K) (tVar 0) (tC (.int 1))) (tCons (tVar 1) tNil))) (tCons (tCall (spOverT K c) [] E0 (tCons (tOp (rIxT K) (tVar 0) (tC (.int 2))) (tCons (tVar 1) tNil))) tNil)) [some v, some (.ref l), none, none] H1 [.bl (a.over cs), .bl (b.over cs)] :=
          Evl.ea_cons (Evl.ev_call (Evl.ea_cons g1 (Evl.ea_cons (Evl.ev_var rfl) Evl.ea_nil)) fun H2 e Q q _ => ⟨x, a, l, cs, rfl, ha.mono e, hn.1, by omega, Evl.ex_l (e1.trans e) hc, q⟩) (Evl.ea_cons (Evl.ev_call (Evl.ea_cons g2 (Evl.ea_cons (Evl.ev_var rfl) Evl.ea_nil)) fun H2 e Q q _ => ⟨y, b, l, cs, rfl, hb.mono e, hn.2, by omega, Evl.ex_l (e1.trans e) hc, q⟩) Evl.ea_nil)
        refine q_parA c1 fun H5 e5 => ?_
        have e15 := e1.trans e5
        obtain ⟨_, _, _, _, g0, _, _⟩ := node_at (K := K) (σ := [some v, some (.ref l), some (.bl (a.over cs)), some (.bl (b.over cs))]) (i := 0) rfl (ht.mono e15)
        refine Evl.q_when (b := decide (s = .plus)) (Evl.et_is (Evl.et_test (Evl.ev_op g0 Evl.ev_c (Evl.rv_eq rfl))) (sgn_eq s .plus)) (fun h6 H6 e6 => ?_) (fun h6 H6 e6 => ?_)
        · obtain rfl := of_decide_eq_true h6
          exact Evl.s_ret (v := .bl (a.over cs || b.over cs)) (Evl.ev_orV (Evl.ev_var rfl) fun _ => Evl.ev_var rfl) fun H7 e7 => q.go ((e15.trans e6).trans e7)
        · have n1 := of_decide_eq_false h6
          obtain ⟨_, _, _, _, g0', _, _⟩ := node_at (K := K) (σ := [some v, some (.ref l), some (.bl (a.over cs)), some (.bl (b.over cs))]) (i := 0) rfl (ht.mono (e15.trans e6))
          refine Evl.s_ret (v := .bl ((Tr.node s a b).over cs)) (Evl.ev_if (b := decide (s = .star)) (Evl.et_is (Evl.et_test (Evl.ev_op g0' Evl.ev_c (Evl.rv_eq rfl))) (sgn_eq s .star)) (fun h7 => ?_) (fun h7 => ?_)) fun H7 e7 => q.go ((e15.trans e6).trans e7)
          · obtain rfl := of_decide_eq_true h7
            exact Evl.ev_andV (a := a.over cs) (b := b.over cs) (Evl.ev_var rfl) fun _ => Evl.ev_var rfl
          · have n2 := of_decide_eq_false h7
            cases s with
            | plus => exact absurd rfl n1
            | star => exact absurd rfl n2
            | minus => exact Evl.ev_andV (a := a.over cs) (b := !b.over cs) (Evl.ev_var rfl) fun _ => Evl.ev_notV (Evl.ev_var rfl)
theorem ok_over {f : Addr} {fd : FuncData} {k : Nat} (T : Tx mg) (b : Binds K fd ["_law_tree_here", "_law_cell"] []) (g : mg "_law_over" = some (.ref f)) (kp : PySem.W.keepIn K (.ref f) = true) (F : Fun K "_law_over" "_law_over" sOver f fd) : ∀ d, FnOk P w K mg base CX0 (k + 1 + d) f fd ["_law_tree_here", "_law_cell"] (spOverT K d)
  | 0 => over_step T ⟨fn_false, b, g, kp⟩ (fun c h => nomatch h) F
  | d + 1 => over_step T ⟨ok_over T b g kp F d, b, g, kp⟩ (fun c h => by cases h; rfl) F
end
end K04
namespace K04
open PySem PySem.Spec PyProof.Rows L2 BW LamX
section
variable {P : Program} {w : World} {K : PySem.W.Frag} {mg : Str → Option Value} {base : Heap} {p L : Addr} {r : RC} {CB : Addr}
def spLandsT (d : Nat) : Sp := fun vs H Q _ => ∃ (v : V) (t : Tr), vs = [v] ∧ TreeAt H t v ∧ TrN t ∧ t.depth ≤ d ∧ d ≤ 2 ∧ ∀ p ys H', Evl.Ex H H' → H' p = some (.lst (ys.map V.str)) → Lands t ys → Q (.ref p) H'
theorem scLands : FnScope ["_law_tree_here"] ["_law_tree_here"] (defScope sLands) := ⟨rfl, rfl, rfl, by decide +kernel, rfl, by decide +kernel, by decide +kernel⟩
theorem lands_step {f : Addr} {fd : FuncData} {kk d : Nat} {sub : Sp} (T : Tx mg) (S : Df P w K mg base kk "_law_lands" ["_law_tree_here"] sub f fd) (hsub : ∀ c, d = c + 1 → sub = spLandsT c) (F : Fun K "_law_lands" "_law_lands" sLands f fd) : FnOk P w K mg base CX0 (kk + 1) f fd ["_law_tree_here"] (spLandsT d) := by
  refine F.ok scLands (fun vs H Q E h => ?_) (fun cdv A outer s H vs Q E hr h => ?_)
  · obtain ⟨v, t, rfl, _⟩ := h
    rfl
  · obtain ⟨v, t, rfl, ht, hn, hd, hd2, q⟩ := h
    refine ⟨_, pss_one (ps_ret (pe_ifExp (pt_val (pe_callB call_isi (by rfl) T.isi (by decide +kernel) (pa_cons (pv 0) (pa_cons (pe_bltn (v := .ty "str") (by rfl) T.str (by decide +kernel) rfl) pa_nil)))) (pe_lst (pa_cons (pv 0) pa_nil))
      (pe_callB (cr_sortedW rfl) (by rfl) T.srt (by decide +kernel) (pa_cons (pe_callTy (cr_setL rfl) (by rfl) T.set_ (by decide +kernel) (pa_cons (pe_op op_cat (pe_df S hr (pa_cons (pe_ix ix_tup (pv 0) pe_int (fun _ _ => rfl)) pa_nil)) (pe_df S hr (pa_cons (pe_ix ix_tup (pv 0) pe_int (fun _ _ => rfl)) pa_nil))) pa_nil)) pa_nil)))), ?_⟩
    refine Evl.et_B (ev_isT rfl ht hn) H (Evl.Ex.refl H) _ fun H1 e1 => ite2 (fun hb => ?_) (fun hb => ?_)
    · cases t with
      | node _ _ _ => cases hb
      | leaf z =>
        cases ht
        refine ⟨.str z, rfl, (by show 1 ≤ sizeLine; decide), fun b nb => q b [z] _ (e1.trans (Evl.Ex.new nb)) upd_same (lands_leaf z)⟩
    · cases t with
      | leaf z => exact absurd rfl hb
      | node s a b =>
        have hd' : 1 + max a.depth b.depth ≤ d := hd
        obtain ⟨c, rfl⟩ : ∃ c, d = c + 1 := ⟨d - 1, by omega⟩
        obtain rfl := hsub c rfl
        obtain ⟨x, y, ha, hb', _, g1, g2⟩ := node_at (K := K) (σ := [some v]) (i := 0) rfl (ht.mono e1)
        refine g1 H1 (Evl.Ex.refl H1) _ fun H2 e2 => ⟨x, a, rfl, ha.mono e2, hn.1, by omega, by omega, fun pa ya H3 e3 hpa la => ?_⟩
        refine g2 H3 (e2.trans e3) _ fun H4 e4 => ⟨y, b, rfl, hb'.mono ((e2.trans e3).trans e4), hn.2, by omega, by omega, fun pb yb H5 e5 hpb lb => ?_⟩
        have l1 := lands_len la (by omega)
        have l2 := lands_len lb (by omega)
        refine ⟨pa, pb, _, _, rfl, rfl, e5 _ _ (e4 _ _ hpa), hpb, Evl.sz_of (by rw [List.length_map, List.length_map]; omega), fun pc nc => ?_⟩
        have ec := Evl.Ex.new (o := .lst (ya.map V.str ++ yb.map V.str)) nc
        have hkv : ((ya ++ yb).map (Sum.inr : Str → Key)).map kV = ya.map V.str ++ yb.map V.str := by
          rw [List.map_map, List.map_append]
          rfl
        refine ⟨pc, (ya ++ yb).map Sum.inr, rfl, ?_, by rw [List.length_map, List.length_append]; omega, fun D S' m nD hS hm => ?_⟩
        · rw [hkv]
          exact Evl.sq_of upd_same
        rw [List.length_map, List.length_append] at hm
        have eD := Evl.Ex.new (o := SetWO P w D S' m) nD
        have txt : ∀ k, S' k = true → ∃ z, k = .inr z := fun k hk => by
          obtain ⟨z, _, e⟩ := List.mem_map.mp ((hS k).1 hk)
          exact ⟨z, e.symm⟩
        refine ⟨D, S', m, rfl, upd_same, txt, by omega, fun ys pr srt nd mem len np => ?_⟩
        have er := Evl.Ex.new (o := .lst (ys.map V.str)) np
        refine q pr ys _ ((((((e1.trans e2).trans e3).trans e4).trans e5).trans ec).trans (eD.trans er)) upd_same ⟨srt, nd, fun z => ?_⟩
        rw [mem, hS, List.mem_map]
        show _ ↔ z ∈ a.leaves ++ b.leaves
        rw [List.mem_append, ← la.mem, ← lb.mem]
        constructor
        · rintro ⟨z', hz, e⟩
          obtain rfl := Sum.inr.inj e
          exact List.mem_append.mp hz
        · exact fun h => ⟨z, List.mem_append.mpr h, rfl⟩
theorem ok_lands {f : Addr} {fd : FuncData} {k : Nat} (T : Tx mg) (b : Binds K fd ["_law_tree_here"] []) (g : mg "_law_lands" = some (.ref f)) (kp : PySem.W.keepIn K (.ref f) = true) (F : Fun K "_law_lands" "_law_lands" sLands f fd) : ∀ d, FnOk P w K mg base CX0 (k + 1 + d) f fd ["_law_tree_here"] (spLandsT d)
  | 0 => lands_step T ⟨fn_false, b, g, kp⟩ (fun c h => nomatch h) F
  | d + 1 => lands_step T ⟨ok_lands T b g kp F d, b, g, kp⟩ (fun c h => by cases h; rfl) F
end
end K04
namespace K04
open PySem PySem.Spec PyProof.Rows L2 BW LamX
abbrev sLName : Stmt := topS 38
abbrev sBent : Stmt := topS 39
abbrev sStop : Stmt := topS 45
def alnum : Str := "abcdefghijklmnopqrstuvwxyz0123456789"
theorem alnum_split : alnum.cps.toList = letters.cps.toList ++ digits.cps.toList := by decide +kernel
theorem alnum_in (c : Nat) : decide (c ∈ alnum.cps.toList) = (isLet c || isDig c) := by
  unfold isLet isDig
  rw [alnum_split]
  by_cases h1 : c ∈ letters.cps.toList
  · rw [decide_eq_true h1, Bool.true_or, decide_eq_true (List.mem_append_left _ h1)]
  · by_cases h2 : c ∈ digits.cps.toList
    · rw [decide_eq_true h2, Bool.or_true, decide_eq_true (List.mem_append_right _ h2)]
    · rw [decide_eq_false h1, decide_eq_false h2, decide_eq_false (fun h => (List.mem_append.mp h).elim h1 h2)]
      rfl
theorem strOk_sign {z : Str} {c : Nat} {i : Nat} (h : PySem.PyData.strOk z = true) (hc : z.cps[i]? = some c) : PySem.PyData.strOk ⟨#[c]⟩ = true := by
  have hm : c ∈ z.cps := Array.mem_of_getElem? hc
  have h2 : c < 0x110000 := of_decide_eq_true (Array.all_eq_true_iff_forall_mem.mp h c hm)
  show (#[c]).all (· < 0x110000) = true
  simp [h2]
section
variable {P : Program} {w : World} {K : PySem.W.Frag} {mg : Str → Option Value} {base : Heap} {p L : Addr}
def TxtOk (z : Str) : Prop := z.length ≤ 100 ∧ PySem.PyData.strOk z = true
def spLName : Sp := fun vs H Q _ => ∃ z, vs = [.str z] ∧ TxtOk z ∧ Evl.RetV (.bl (nameB z)) H Q
theorem scLName : FnScope ["_law_item", "_law_sign"] ["_law_item"] (defScope sLName) := ⟨rfl, rfl, rfl, by decide +kernel, rfl, by decide +kernel, by decide +kernel⟩
theorem ok_lname {f : Addr} {fd : FuncData} {k : Nat} (T : Tx mg) (F : Fun K "_law_is_name" "_law_is_name" sLName f fd) : FnOk P w K mg base CX0 (k + 1) f fd ["_law_item"] spLName := by
  refine F.ok scLName (fun vs H Q E h => ?_) (fun cdv A outer s H vs Q E hr h => ?_)
  · obtain ⟨z, rfl, _⟩ := h
    rfl
  · obtain ⟨z, rfl, ⟨hz, ok⟩, q⟩ := h
    have nd := scLName.nd
    refine ⟨_, pss_cons (ps_if (PW.pt (pw_or (pt_not (pt_chain op_le op_le pe_int (pe_callB call_len_str (by rfl) T.len PySem.boot_len (pa_cons (pv 0) pa_nil)) pe_int))
          (pw_or1 (pt_cmpR op_notIn_sign (pe_ix ix_str (pv 0) pe_int (fun _ _ => rfl)) (pe_str (x := letters)) (by rfl)))))
        (pss_one (ps_ret pe_bl)) pss_nil)
      (pss_one (ps_ret (pe_cmpR (op_eqD hr.units) (pe_lc (own := [("_law_sign", 1)]) (g := gName 1) rfl nd (pi_str (pv 0))
          (blkOk_by (N := ["_law_item", "_law_sign"]) (sc := defScope sLName) (by decide +kernel)) (fun _ _ _ _ _ => pg_name (i := 1) nd rfl (Or.inl rfl))
          (fun _ _ _ _ _ => pts_one (pt_cmpR op_notIn_sign (pv 1) (pe_str (x := alnum)) (by rfl)))
          (fun _ _ _ _ _ => pv 1)) (pe_lst pa_nil) (nomark _)))), ?_⟩
    have z1 : z.length ≤ 100000 := by omega
    have chain : Evl.EvT (tTest (tChain (rI0 fun i j => .bl (decide (i ≤ j))) (rI0 fun i j => .bl (decide (i ≤ j))) (tC (.int 1)) (tCB (fun xs H Q => ∃ z : Str, xs = [.str z] ∧ z.length ≤ sizeLine ∧ Q (.int z.length) H) (tCons (tVar 0) tNil)) (tC (.int 12)))) [some (.str z), none] H (decide ((1 : Int) ≤ (z.length : Int)) && decide ((z.length : Int) ≤ 12)) :=
      et_chain Evl.ev_c (Evl.ev_cb (Evl.ea_cons (Evl.ev_var rfl) Evl.ea_nil) (fun H1 _ Q q => ⟨z, rfl, Evl.sz_of z1, q H1 (Evl.Ex.refl H1)⟩)) Evl.ev_c Evl.rv_I0 Evl.rv_I0
    have hl : z.cps.toList.length = z.length := Array.length_toList
    cases he : z.cps.toList with
    | nil =>
      rw [he] at hl
      have hn : nameB z = false := by
        unfold nameB
        rw [he]
      rw [hn] at q
      refine Evl.q_when (b := true) (Evl.et_or (a := true) (b := true) (Evl.et_is (Evl.et_not chain) (by rw [← hl]; rfl)) (fun z => nomatch z)) (fun _ H1 e1 => ?_) (fun z => nomatch z)
      exact Evl.s_ret Evl.ev_c fun H2 e2 => q.go (e1.trans e2)
    | cons c r =>
      rw [he] at hl
      have hl1 : r.length + 1 = z.length := hl
      have hat : atI z.cps.toList 0 = some c := atI_nat (j := 0) (by rw [he]; rfl)
      have hnb : nameB z = (decide (z.length ≤ 12) && (isLet c && (c :: r).all fun c => isLet c || isDig c)) := by
        unfold nameB
        rw [he]
      have e1 : decide ((1 : Int) ≤ (z.length : Int)) = true := decide_eq_true (by omega)
      refine Evl.q_when (b := !(decide (z.length ≤ 12)) || !isLet c) (Evl.et_or (Evl.et_is (Evl.et_not chain) (by rw [e1, Bool.true_and]; congr 1; exact decide_eq_decide.mpr (by omega))) fun _ => Evl.et_test (Evl.ev_op (Evl.ev_op (Evl.ev_var rfl) Evl.ev_c (Evl.rv_ixS z1 hat)) Evl.ev_c rv_ninSign)) (fun hb H1 e1 => ?_) (fun hb H1 e1 => ?_)
      · refine Evl.s_ret Evl.ev_c fun H2 e2 => ?_
        have hn : nameB z = false := by
          rw [hnb]
          cases h1 : decide (z.length ≤ 12) with
          | false => rfl
          | true =>
            rw [h1] at hb
            cases h2 : isLet c with
            | false => rfl
            | true =>
              rw [h2] at hb
              cases hb
        rw [hn] at q
        exact q.go (e1.trans e2)
      · have h12 : decide (z.length ≤ 12) = true := by
          cases h1 : decide (z.length ≤ 12) with
          | true => rfl
          | false =>
            rw [h1] at hb
            cases hb
        have hcl : isLet c = true := by
          cases h1 : isLet c with
          | true => rfl
          | false =>
            rw [h12, h1] at hb
            cases hb
        have hn : nameB z = (Evl.given z.cps.size (fun i => !decide (z.cps.toList.getD i 0 ∈ alnum.cps.toList)) (fun i => V.str ⟨#[z.cps.toList.getD i 0]⟩)).isEmpty := by
          rw [hnb, given_empty, h12, hcl, Bool.true_and, Bool.true_and, he]
          have hm := BW.map_getD (c :: r) (fun c => decide (c ∈ alnum.cps.toList))
          have hsz : z.cps.size = (c :: r).length := by rw [← he, Array.length_toList]
          rw [hsz]
          have ha : ∀ (n : Nat) (g : Nat → Bool), ((List.range n).all fun i => !!g i) = ((List.range n).map g).all id := fun n g => by
            rw [List.all_map]
            congr 1
            funext i
            simp
          rw [ha]
          show _ = ((List.range (c :: r).length).map fun i => decide ((c :: r).getD i default ∈ alnum.cps.toList)).all id
          rw [hm, List.all_map]
          congr 1
          funext c
          exact (alnum_in c).symm
        refine Evl.s_ret (v := .bl (nameB z)) (Evl.ev_is (ev_eqE (el_lcS _ _ (Evl.ev_var rfl) (by show z.length ≤ 40000; omega) (fun _ => rfl) (fun i c H2 e2 hc => ?_) (fun i c H2 e2 hc _ => ?_)) (fun y hy => ?_)) (by rw [hn])) (fun H2 e2 => q.go (e1.trans e2))
        · have hd : z.cps.toList.getD i 0 = c := by
            rw [List.getD_eq_getElem?_getD, Array.getElem?_toList, hc]
            rfl
          rw [hd]
          exact Evl.et_test (Evl.ev_op (Evl.ev_var rfl) Evl.ev_c rv_ninSign)
        · have hd : z.cps.toList.getD i 0 = c := by
            rw [List.getD_eq_getElem?_getD, Array.getElem?_toList, hc]
            rfl
          rw [hd]
          exact Evl.ev_var rfl
        · obtain ⟨i, hi, _, rfl⟩ := given_mem hy
          have hc : z.cps[i]? = some (z.cps.toList.getD i 0) := by
            rw [List.getD_eq_getElem?_getD, Array.getElem?_toList, Array.getElem?_eq_getElem hi]
            rfl
          exact .str (by show (1 : Nat) ≤ 1000; decide) (strOk_sign ok hc)
end
end K04
namespace K04
open PySem PySem.Spec PyProof.Rows L2 BW LamX
section
variable {P : Program} {w : World} {K : PySem.W.Frag} {mg : Str → Option Value} {base : Heap} {p L : Addr}
def Evo (t : TO) (σ : L2.St) (H : Hp) (o : Option Int) : Prop := ∀ H1, Evl.Ex H H1 → ∀ Q : Option Int → Hp → Prop, (∀ H2, Evl.Ex H1 H2 → Q o H2) → t σ H1 Q
theorem eo_none {σ : L2.St} {H : Hp} : Evo tNoPart σ H none := fun H1 _ Q q => q H1 (Evl.Ex.refl H1)
theorem eo_some {σ : L2.St} {H : Hp} {te : TE} {i : Int} (h : Evl.Ev te σ H (.int i)) : Evo (tPart te) σ H (some i) := fun H1 e Q q => h H1 e _ fun H2 e2 => ⟨i, rfl, q H2 e2⟩
/-- a list of texts, each one of these or that one, at most N -/
def OfT (xs : List Str) (odd : Str) (N : Nat) (vs : List V) : Prop := ∃ zs : List Str, vs = zs.map V.str ∧ (∀ z ∈ zs, z ∈ xs ∨ z = odd) ∧ zs.length ≤ N
theorem strs_of {xs : List Str} : ∀ {l : List V}, (∀ x ∈ l, x ∈ xs.map V.str) → ∃ zs : List Str, l = zs.map V.str ∧ ∀ z ∈ zs, z ∈ xs
  | [], _ => ⟨[], rfl, fun z h => nomatch h⟩
  | x :: l, h => by
    obtain ⟨z, hz, rfl⟩ := List.mem_map.mp (h x List.mem_cons_self)
    obtain ⟨zs, e, h2⟩ := strs_of fun y hy => h y (List.mem_cons_of_mem _ hy)
    refine ⟨z :: zs, by rw [e]; rfl, fun y hy => ?_⟩
    rcases List.mem_cons.mp hy with rfl | hy
    · exact hz
    · exact h2 y hy
theorem cutV_len (xs : List V) (lo hi : Option Int) : (cutV xs lo hi).length ≤ xs.length := by
  unfold cutV
  rw [List.length_take, List.length_drop]
  omega
theorem en_cut {σ : L2.St} {H : Hp} {te : TE} {tl th : TO} {a : Addr} {xs : List Str} {odd : Str} {lo hi : Option Int} (h : Evl.Ev te σ H (.ref a)) (ha : H a = some (.lst (xs.map V.str))) (hl : Evo tl σ H lo) (hh : Evo th σ H hi) :
    Evn (tSl (rSlL K) te tl th) σ H (OfT xs odd xs.length) := fun H1 e Q q => h H1 e _ fun H2 e2 => hl H2 (e.trans e2) _ fun H3 e3 => hh H3 ((e.trans e2).trans e3) _ fun H4 e4 => by
  have e24 := (e2.trans e3).trans e4
  refine ⟨a, xs.map V.str, rfl, Evl.sq_of (e24 _ _ (e _ _ ha)), fun b nb => q b _ _ (Evl.fresh_back e24 nb) (e24.trans (Evl.Ex.new nb)) upd_same ?_⟩
  obtain ⟨zs, ez, hz⟩ := strs_of (xs := xs) (l := cutV (xs.map V.str) lo hi) fun x hx => cutV_mem hx
  refine ⟨zs, ez, fun z h => .inl (hz z h), ?_⟩
  have := cutV_len (xs.map V.str) lo hi
  rw [ez, List.length_map, List.length_map] at this
  exact this
theorem en_one {σ : L2.St} {H : Hp} {te : TE} {xs : List Str} {odd : Str} (h : Evl.Ev te σ H (.str odd)) : Evn (tLst (tCons te tNil)) σ H (OfT xs odd 1) := fun H1 e Q q =>
  Evl.el_lst (Evl.ea_cons h Evl.ea_nil) (by show 1 ≤ 100000; decide) H1 e Q fun a H2 na e2 ha => q a _ H2 na e2 ha ⟨[odd], rfl, fun z hz => .inr (List.mem_singleton.mp hz), Nat.le_refl _⟩
theorem en_var {σ : L2.St} {H : Hp} {ta : TE} {a : Addr} {xs : List Str} {odd : Str} (h : Evl.Ev ta σ H (.ref a)) (ha : H a = some (.lst (xs.map V.str))) {tb : TE} {M : Nat} (hb : Evn tb σ H (OfT xs odd M)) (hl : xs.length + M ≤ 100000) : Evn (tOp rCat ta tb) σ H (OfT xs odd (xs.length + M)) := fun H1 e Q q =>
  h H1 e _ fun H2 e2 => hb H2 (e.trans e2) _ fun b ys H3 nb e3 hb3 ⟨zs, ez, hz, lz⟩ => by
    subst ez
    refine ⟨a, b, _, _, rfl, rfl, e3 _ _ (e2 _ _ (e _ _ ha)), hb3, Evl.sz_of (by rw [List.length_map, List.length_map]; omega), fun o no => q o _ _ (Evl.fresh_back (e2.trans e3) no) ((e2.trans e3).trans (Evl.Ex.new no)) upd_same ⟨xs ++ zs, by rw [List.map_append], fun z h => ?_, by rw [List.length_append]; omega⟩⟩
    rcases List.mem_append.mp h with h | h
    · exact .inl h
    · exact hz z h
theorem en_cat {σ : L2.St} {H : Hp} {ta tb : TE} {xs : List Str} {odd : Str} {N M : Nat} (ha : Evn ta σ H (OfT xs odd N)) (hb : Evn tb σ H (OfT xs odd M)) (hl : N + M ≤ 100000) : Evn (tOp rCat ta tb) σ H (OfT xs odd (N + M)) := fun H1 e Q q =>
  ha H1 e _ fun a ys H2 na e2 ha2 ⟨ws, ew, hw, lw⟩ => hb H2 (e.trans e2) _ fun b ys' H3 nb e3 hb3 ⟨zs, ez, hz, lz⟩ => by
    subst ez ew
    refine ⟨a, b, _, _, rfl, rfl, e3 _ _ ha2, hb3, Evl.sz_of (by rw [List.length_map, List.length_map]; omega), fun o no => q o _ _ (Evl.fresh_back (e2.trans e3) no) ((e2.trans e3).trans (Evl.Ex.new no)) upd_same ⟨ws ++ zs, by rw [List.map_append], fun z h => ?_, by rw [List.length_append]; omega⟩⟩
    rcases List.mem_append.mp h with h | h
    · exact hw z h
    · exact hz z h
def spBent : Sp := fun vs H Q _ => ∃ (p L a : Addr) (n : Nat) (xs : List Str) (odd : Str), vs = [.ref p, .ref a, .str odd] ∧ PenL H p L n ∧ n + 2 ≤ 100000 ∧ a ≠ p ∧ H a = some (.lst (xs.map V.str)) ∧ xs ≠ [] ∧ xs.length ≤ 20 ∧
  ∀ (b : Addr) (zs : List Str) (H' : Hp), Kp p H H' → PenL H' p L (n + 2) → b ≠ p → H' b = some (.lst (zs.map V.str)) → (∀ z ∈ zs, z ∈ xs ∨ z = odd) → zs.length ≤ xs.length + 1 + xs.length → Q (.ref b) H'
theorem scBent : FnScope ["_law_pen_here", "_law_items", "_law_odd", "_law_way", "_law_at"] ["_law_pen_here", "_law_items", "_law_odd"] (defScope sBent) := ⟨rfl, rfl, rfl, by decide +kernel, rfl, by decide +kernel, by decide +kernel⟩
theorem ok_bent {f fD : Addr} {fd fdD : FuncData} {k : Nat} (T : Tx mg) (N : Df P w K mg base (k + 1) "_law_draw" ["_law_pen_here", "_law_many"] spDraw fD fdD) (F : Fun K "_law_bent" "_law_bent" sBent f fd) : FnOk P w K mg base CX0 (k + 2) f fd ["_law_pen_here", "_law_items", "_law_odd"] spBent := by
  refine F.ok scBent (fun vs H Q E h => ?_) (fun cdv A outer s H vs Q E hr h => ?_)
  · obtain ⟨p, L, a, n, xs, odd, rfl, _⟩ := h
    rfl
  · obtain ⟨p, L, a, n, xs, odd, rfl, hP, hn, na, ha, hx, hl, q⟩ := h
    have nd := scBent.nd
    refine ⟨_, pss_cons (ps_par (i := 3) (j := 4) (by rfl) nd rfl rfl (by decide) rfl rfl (pa_cons (pe_df N hr (pa_cons (pv 0) (pa_cons pe_int pa_nil))) (pa_cons (pe_df N hr (pa_cons (pv 0) (pa_cons (pe_callB call_len_seq (by rfl) T.len PySem.boot_len (pa_cons (pv 1) pa_nil)) pa_nil))) pa_nil)) (by rfl))
      (pss_cons (ps_if (pt_cmpR op_eq (pv 3) pe_int (nomark _)) (pss_one (ps_ret (pe_op op_cat (pe_slice sl_list (pv 1) po_none (po_some (pv 4))) (pe_slice sl_list (pv 1) (po_some (pe_op op_add (pv 4) pe_int)) po_none)))) pss_nil)
      (pss_cons (ps_if (pt_cmpR op_eq (pv 3) pe_int (nomark _)) (pss_one (ps_ret (pe_op op_cat (pe_op op_cat (pe_slice sl_list (pv 1) po_none (po_some (pv 4))) (pe_lst (pa_cons (pv 2) pa_nil))) (pe_slice sl_list (pv 1) (po_some (pv 4)) po_none)))) pss_nil)
      (pss_cons (ps_if (pt_cmpR op_eq (pv 3) pe_int (nomark _)) (pss_one (ps_ret (pe_op op_cat (pe_op op_cat (pe_slice sl_list (pv 1) po_none (po_some (pv 4))) (pe_lst (pa_cons (pv 2) pa_nil))) (pe_slice sl_list (pv 1) (po_some (pe_op op_add (pv 4) pe_int)) po_none)))) pss_nil)
      (pss_one (ps_ret (pe_ifExp (pt_cmpR op_eq (pv 3) pe_int (nomark _)) (pe_op op_cat (pv 1) (pe_lst (pa_cons (pv 2) pa_nil))) (pv 1))))))), ?_⟩
    have hl0 : 0 < xs.length := List.length_pos_iff.mpr hx
    refine ed_drawC (M := 5) (i := 0) rfl (by decide) (by decide) H (Kp.refl _ _) n hP (by omega) _ fun v H1 k1 p1 hv => ?_
    obtain ⟨way, rfl, w0, w1⟩ := hv
    have ha1 := k1 _ _ na ha
    refine ⟨.ref p, rfl, .ref a, rfl, a, _, rfl, .inl (Evl.sq_of ha1), p, L, n + 1, ((xs.map V.str).length : Int), rfl, p1, by omega, by rw [List.length_map]; omega, by rw [List.length_map]; omega, fun at_ H2 a0 a1 k2 p2 => ⟨_, _, rfl, ?_⟩⟩
    have ha2 := k2 _ _ na ha1
    have k12 := k1.trans k2
    have fin : ∀ {te : TE} {N : Nat} {D : Ends} {G : Hp}, D.rt = Q → Evl.Ex H2 G → N ≤ xs.length + 1 + xs.length → Evn te [some (.ref p), some (.ref a), some (.str odd), some (.int way), some (.int at_)] G (OfT xs odd N) → tRet te D [some (.ref p), some (.ref a), some (.str odd), some (.int way), some (.int at_)] G := fun {te N D G} hD eG hN h => by
      delta tRet
      rw [hD]
      refine h G (Evl.Ex.refl G) _ fun b ys H3 nb e3 hb ⟨zs, ez, hz, lz⟩ => ?_
      subst ez
      have pG := p2.same eG
      exact q b zs H3 (k12.trans (Same.kp (eG.trans e3))) (pG.same e3) (pG.ne nb).1 hb hz (by omega)
    have hway : ∀ {G : Hp} {j : Int}, Evl.EvT (tTest (tOp rEq (tVar 3) (tC (.int j)))) [some (.ref p), some (.ref a), some (.str odd), some (.int way), some (.int at_)] G (decide (V.int way = .int j)) := fun {G j} => Evl.et_test (Evl.ev_op (Evl.ev_var rfl) Evl.ev_c (Evl.rv_eq rfl))
    have vat : ∀ {G : Hp}, Evl.Ev (tVar 4) [some (.ref p), some (.ref a), some (.str odd), some (.int way), some (.int at_)] G (.int at_) := fun {G} => Evl.ev_var rfl
    have va : ∀ {G : Hp}, Evl.Ev (tVar 1) [some (.ref p), some (.ref a), some (.str odd), some (.int way), some (.int at_)] G (.ref a) := fun {G} => Evl.ev_var rfl
    have vo : ∀ {G : Hp}, Evl.Ev (tVar 2) [some (.ref p), some (.ref a), some (.str odd), some (.int way), some (.int at_)] G (.str odd) := fun {G} => Evl.ev_var rfl
    have vp : ∀ {G : Hp}, Evl.Ev (tOp (rI0 fun i j => .int (i + j)) (tVar 4) (tC (.int 1))) [some (.ref p), some (.ref a), some (.str odd), some (.int way), some (.int at_)] G (.int (at_ + 1)) := fun {G} => Evl.ev_op vat Evl.ev_c Evl.rv_I0
    refine Evl.q_when hway (fun _ H3 e3 => ?_) (fun _ H3 e3 => ?_)
    · exact fin rfl e3 (by omega) (en_cat (en_cut va (e3 _ _ ha2) eo_none (eo_some vat)) (en_cut va (e3 _ _ ha2) (eo_some vp) eo_none) (by omega))
    refine Evl.q_when hway (fun _ H4 e4 => ?_) (fun _ H4 e4 => ?_)
    · have e34 := e3.trans e4
      exact fin rfl e34 (Nat.le_refl _) (en_cat (en_cat (en_cut va (e34 _ _ ha2) eo_none (eo_some vat)) (en_one vo) (by omega)) (en_cut va (e34 _ _ ha2) (eo_some vat) eo_none) (by omega))
    have e34 := e3.trans e4
    refine Evl.q_when hway (fun _ H5 e5 => ?_) (fun _ H5 e5 => ?_)
    · have e35 := e34.trans e5
      exact fin rfl e35 (Nat.le_refl _) (en_cat (en_cat (en_cut va (e35 _ _ ha2) eo_none (eo_some vat)) (en_one vo) (by omega)) (en_cut va (e35 _ _ ha2) (eo_some vp) eo_none) (by omega))
    have e35 := e34.trans e5
    refine hway H5 (Evl.Ex.refl _) _ fun H6 e6 => ite2 (fun _ => ?_) (fun _ => ?_)
    · have e36 := e35.trans e6
      exact fin (D := { nx := fun _ H' => Q .non H', rt := Q }) rfl e36 (Nat.le_add_right _ _) (en_var va (e36 _ _ ha2) (en_one vo) (by omega))
    · have e36 := e35.trans e6
      exact ⟨.ref a, rfl, q a xs H6 (k12.trans (Same.kp e36)) (p2.same e36) na (e36 _ _ ha2) (fun z hz => .inl hz) (by omega)⟩
end
end K04
namespace K04
open PySem PySem.Spec PyProof.Rows L2 BW LamX
/-- the levels still to be read, one behind another -/
def prsS (xs : List Str) : List Nat → Nat → Nat ⊕ Nat
  | [], i => .inr i
  | m :: st, i => match prs xs m i with
    | .inl e => .inl e
    | .inr (_, j) => prsS xs st j
def fate (xs : List Str) (st : List Nat) (i : Nat) : Option Nat := match prsS xs st i with
  | .inl e => some e
  | .inr j => if j < xs.length then some j else none
theorem stp_fate (xs : List Str) : stp xs = fate xs [2] 0 := by
  unfold stp fate prsS
  cases prs xs 2 0 with
  | inl e => rfl
  | inr x => rfl
theorem fate_nil {xs : List Str} {i : Nat} (h : i < xs.length) : fate xs [] i = some i := by
  show (if i < xs.length then some i else none) = some i
  rw [if_pos h]
theorem fate_end0 {xs : List Str} : fate xs [] xs.length = none := by
  show (if xs.length < xs.length then _ else none) = none
  rw [if_neg (Nat.lt_irrefl _)]
theorem prs_none {xs : List Str} {m i : Nat} (h : xs[i]? = none) : prs xs m i = .inl i := by
  cases m <;> (unfold prs; rw [h])
theorem fate_end {xs : List Str} {m : Nat} {st : List Nat} : fate xs (m :: st) xs.length = some xs.length := by
  unfold fate prsS
  rw [prs_none (List.getElem?_eq_none (Nat.le_refl _))]
theorem fate_no {xs : List Str} {m i : Nat} {st : List Nat} {z : Str} (hz : xs[i]? = some z) (hs : ((sgOf z).isSome && decide (0 < m)) = false) (hn : nameB z = false) : fate xs (m :: st) i = some i := by
  unfold fate prsS
  rw [prs_nm hz hs, hn, if_neg Bool.false_ne_true]
theorem fate_nm {xs : List Str} {m i : Nat} {st : List Nat} {z : Str} (hz : xs[i]? = some z) (hs : ((sgOf z).isSome && decide (0 < m)) = false) (hn : nameB z = true) : fate xs (m :: st) i = fate xs st (i + 1) := by
  show (match prsS xs (m :: st) i with | .inl e => some e | .inr j => if j < xs.length then some j else none) = _
  have e : prsS xs (m :: st) i = prsS xs st (i + 1) := by
    show (match prs xs m i with | .inl e => Sum.inl e | .inr (_, j) => prsS xs st j) = _
    rw [prs_nm hz hs, hn, if_pos rfl]
  rw [e]
  rfl
theorem fate_sg {xs : List Str} {m i : Nat} {st : List Nat} {z : Str} {s : Sg} (hz : xs[i]? = some z) (hs : sgOf z = some s) : fate xs ((m + 1) :: st) i = fate xs (m :: m :: st) (i + 1) := by
  have e : prsS xs ((m + 1) :: st) i = prsS xs (m :: m :: st) (i + 1) := by
    show (match prs xs (m + 1) i with | .inl e => Sum.inl e | .inr (_, j) => prsS xs st j) = (match prs xs m (i + 1) with | .inl e => Sum.inl e | .inr (_, j) => (match prs xs m j with | .inl e => Sum.inl e | .inr (_, j) => prsS xs st j))
    rw [prs_sg hz hs]
    cases prs xs m (i + 1) with
    | inl e => rfl
    | inr x =>
      obtain ⟨a, j⟩ := x
      dsimp only
      cases prs xs m j with
      | inl e => rfl
      | inr y => rfl
  unfold fate
  rw [e]
section
variable {P : Program} {w : World} {K : PySem.W.Frag} {mg : Str → Option Value} {base : Heap} {p L : Addr}
def outO : Option Nat → V
  | none => .non
  | some e => .int (e : Int)
def spStop (K : PySem.W.Frag) : Sp := fun vs H Q _ => ∃ (a : Addr) (xs : List Str), vs = [.ref a] ∧ SqL K H a (xs.map V.str) ∧ xs.length ≤ 50 ∧ (∀ x ∈ xs, TxtOk x) ∧ Evl.RetV (outO (stp xs)) H Q
theorem scStop : FnScope ["_law_items", "_law_left", "_law_at", "_law_item", "_law_most"] ["_law_items"] (defScope sStop) := ⟨rfl, rfl, rfl, by decide +kernel, rfl, by decide +kernel, by decide +kernel⟩
theorem ev_isNil {σ : L2.St} {H : Hp} {ta : TE} {l : Addr} {ns : List Int} (h : Evl.Ev ta σ H (.ref l)) (hl : H l = some (.lst (ns.map V.int))) : Evl.Ev (tOp (rEqD K) ta (tLst tNil)) σ H (.bl ns.isEmpty) :=
  Evl.ev_opL h (Evl.el_lst Evl.ea_nil (by show 0 ≤ 100000; decide)) fun q H1 hq e1 => fun H2 e2 Q k => by
    refine ⟨.list (ns.map .int), .list [], .lst (Evl.sq_of (e2 _ _ (e1 _ _ hl))) (dp_ints _ _ ns), .lst (Evl.sq_of (e2 _ _ hq)) .nil, PySem.W.shaped_ints ns, rfl, ?_⟩
    have e3 : PyData.eqv (.list (ns.map .int)) (.list []) = ns.isEmpty := by
      cases ns <;> rfl
    rw [e3]
    exact k H2 (Evl.Ex.refl H2)
def stV (st : List Nat) : List V := (st.reverse.map fun m : Nat => (m : Int)).map V.int
theorem stV_cons (m : Nat) (st : List Nat) : stV (m :: st) = stV st ++ [.int (m : Int)] := by
  unfold stV
  rw [List.reverse_cons, List.map_append, List.map_append]
  rfl
theorem ok_stop {f fN : Addr} {fd fdN : FuncData} {k : Nat} (T : Tx mg) (N : Df P w K mg base (k + 1) "_law_is_name" ["_law_item"] spLName fN fdN) (F : Fun K "_law_stop" "_law_stop" sStop f fd) : FnOk P w K mg base CX0 (k + 2) f fd ["_law_items"] (spStop K) := by
  refine F.ok scStop (fun vs H Q E h => ?_) (fun cdv A outer s H vs Q E hr h => ?_)
  · obtain ⟨a, xs, rfl, _⟩ := h
    rfl
  · obtain ⟨a, xs, rfl, ha, hl, hx, q⟩ := h
    have nd := scStop.nd
    refine ⟨_, pss_cons (ps_set (i := 1) nd rfl (.inl rfl) (pe_lst (pa_cons pe_int pa_nil)))
      (pss_cons (ps_for PassesOwn.never rfl (pi_enum (by rfl) T.enm (pa_cons (pv 0) pa_nil)) (pg_tup (n := 2) rfl (pgs_cons (pg_name (i := 2) nd rfl (.inl rfl)) (pgs_cons (pg_name (i := 3) nd rfl (.inl rfl)) pgs_nil)))
        (pss_cons (ps_if (pt_cmpR (op_eqD hr.units) (pv 1) (pe_lst pa_nil) (nomark _)) (pss_one (ps_ret (pv 2))) pss_nil)
        (pss_cons (ps_set (i := 4) nd rfl (.inl rfl) (pe_bm0 PySem.F.plainAttrs_list PySem.F.slot_list_pop PySem.F.type_list_pop mt_pop (pv 1)))
        (pss_one (ps_if (pt_cmpR op_in_seq (pv 3) (pe_lst (pa_cons pe_str (pa_cons pe_str (pa_cons pe_str pa_nil)))) (by rfl))
          (pss_cons (ps_if (pt_cmpR op_eq (pv 4) pe_int (nomark _)) (pss_one (ps_ret (pv 2))) pss_nil)
            (pss_one (ps_expr (pe_bm PySem.F.plainAttrs_list PySem.F.slot_list_extend PySem.F.type_list_extend mt_extend (pv 1) (pa_cons (pe_lst (pa_cons (pe_op op_sub (pv 4) pe_int) (pa_cons (pe_op op_sub (pv 4) pe_int) pa_nil))) pa_nil)))))
          (pss_one (ps_if (pt_not (pt_val (pe_df N hr (pa_cons (pv 3) pa_nil)))) (pss_one (ps_ret (pv 2))) pss_nil)))))))
      (pss_one (ps_ret (pe_ifExp (pt_cmpR (op_eqD hr.units) (pv 1) (pe_lst pa_nil) (nomark _)) pe_non (pe_callB call_len_seq (by rfl) T.len PySem.boot_len (pa_cons (pv 0) pa_nil)))))), ?_⟩
    refine ⟨(by show 1 ≤ sizeLine; decide), fun l nl => ?_⟩
    have el := Evl.Ex.new (o := .lst [V.int 2]) nl
    have hlen : (xs.map V.str).length = xs.length := List.length_map ..
    refine ⟨.ref a, rfl, a, xs.map V.str, rfl, Evl.ex_l el ha, for_it (walk_enum (K := K) (a := a) (xs := xs.map V.str)) (fun i σ G => ∃ (st : List Nat) (o2 o3 o4 : Option V), σ = [some (.ref a), some (.ref l), o2, o3, o4] ∧ G l = some (.lst (stV st)) ∧ st.length ≤ 1 + i ∧ i ≤ xs.length ∧ stp xs = fate xs st i ∧ Evl.Ex H G) ?_ ?_ ?_ ?_⟩
    · exact ⟨[2], none, none, none, rfl, upd_same, Nat.le_refl _, Nat.zero_le _, stp_fate xs, el⟩
    · rintro i σ G _ ⟨st, o2, o3, o4, rfl, _, _, _, _, eG⟩
      exact Evl.ex_l eG ha
    · rintro i x σ G G' hi ⟨st, o2, o3, o4, rfl, hst, hsl, hil, hf, eG⟩ ⟨T, y, z, rfl, nT, rfl, ey, ez⟩
      obtain rfl := Option.some.inj ey
      rw [hlen] at hi
      obtain ⟨zs, hz, rfl⟩ : ∃ zs, xs[i]? = some zs ∧ z = V.str zs := by
        have ez : (xs.map V.str)[i]? = some z := ez
        rw [List.getElem?_map] at ez
        cases h : xs[i]? with
        | none =>
          rw [h] at ez
          cases ez
        | some zs =>
          rw [h] at ez
          exact ⟨zs, rfl, (Option.some.inj ez).symm⟩
      have eT := Evl.Ex.new (o := .tup [.int (i : Nat), V.str zs]) nT
      have ok := hx zs (List.mem_of_getElem? hz)
      refine ⟨T, _, rfl, .inl (.inl upd_same), rfl, .int (i : Nat), _, rfl, .str zs, [], rfl, rfl, ?_⟩
      have hst1 := eT _ _ hst
      have eG1 := eG.trans eT
      generalize upd G T (.tup [.int (i : Nat), V.str zs]) = G1 at hst1 eG1 ⊢
      have ret : ∀ {G2 : Hp} {D : Ends} {o4 : Option V}, D.rt = Q → Evl.Ex H G2 → stp xs = some i → tRet (tVar 2) D [some (.ref a), some (.ref l), some (.int (i : Int)), some (.str zs), o4] G2 := fun {G2 D o4} hD e2 hs => by
        delta tRet
        rw [hD]
        refine ⟨_, rfl, ?_⟩
        rw [hs] at q
        exact q.go e2
      refine Evl.q_when (b := st.isEmpty) (Evl.et_test (Evl.ev_is (ev_isNil (Evl.ev_var rfl) hst1) (by cases st <;> simp))) (fun hb G2 e2 => ?_) (fun hb G2 e2 => ?_)
      · have e0 : st = [] := List.isEmpty_iff.mp hb
        exact ret rfl (eG1.trans e2) (by rw [hf, e0]; exact fate_nil hi)
      · obtain ⟨m, st', rfl⟩ : ∃ m st', st = m :: st' := by
          cases st with
          | nil => cases hb
          | cons m st' => exact ⟨m, st', rfl⟩
        have hst2 : G2 l = some (.lst (stV st' ++ [.int (m : Int)])) := by
          rw [← stV_cons]
          exact e2 _ _ hst1
        have eG2 := eG1.trans e2
        refine ⟨.ref l, rfl, .inl ⟨rfl, _, Evl.sq_of hst2⟩, l, _, .int (m : Int), rfl, rfl, hst2, by simp, ?_⟩
        rw [List.dropLast_concat]
        have e3 := Evl.Ex.mut (o := .lst (stV st')) eG2 nl
        have hst3 : (upd G2 l (.lst (stV st'))) l = some (.lst (stV st')) := upd_same
        generalize upd G2 l (.lst (stV st')) = G3 at e3 hst3 ⊢
        have hsl' : st'.length + 1 ≤ 1 + i := hsl
        refine Evl.s_if (b := (sgOf zs).isSome) (Evl.et_is (Evl.et_test (Evl.ev_opL (x := .str zs) (Evl.ev_var rfl) (Evl.el_lst (vs := [.str "+", .str "*", .str "-"]) (Evl.ea_cons Evl.ev_c (Evl.ea_cons Evl.ev_c (Evl.ea_cons Evl.ev_c Evl.ea_nil))) (by show 3 ≤ 100000; decide)) fun q H1 hq _ => rv_inL (cs := ["+", "*", "-"]) (Evl.sq_of hq))) (sgOf_in zs)) (fun hs G4 e4 => ?_) (fun hs G4 e4 => ?_)
        · obtain ⟨s, hs1⟩ := Option.isSome_iff_exists.mp hs
          have e34 := e3.trans e4
          refine Evl.q_when (b := decide (V.int (m : Int) = V.int 0)) (Evl.et_test (Evl.ev_op (Evl.ev_var rfl) Evl.ev_c (Evl.rv_eq rfl))) (fun hm G5 e5 => ?_) (fun hm G5 e5 => ?_)
          · have e0 : (m : Int) = 0 := V.int.inj (of_decide_eq_true hm)
            obtain rfl : m = 0 := by omega
            exact ret rfl (e34.trans e5) (by rw [hf]; exact fate_no hz (by simp) (sg_noname hs1))
          · obtain ⟨c, rfl⟩ : ∃ c, m = c + 1 := ⟨m - 1, by
              have h := of_decide_eq_false hm
              have : m ≠ 0 := fun h0 => h (by rw [h0]; rfl)
              omega⟩
            have hst5 := e5 _ _ (e4 _ _ hst3)
            have ec : ((c + 1 : Nat) : Int) - 1 = (c : Int) := by omega
            refine ⟨.ref l, rfl, .inl ⟨rfl, _, Evl.sq_of hst5⟩, .int ((c + 1 : Nat) : Int), rfl, _, 1, rfl, rfl, .int ((c + 1 : Nat) : Int), rfl, _, 1, rfl, rfl, (by show 2 ≤ sizeLine; decide), fun b nb => ?_⟩
            dsimp only
            rw [ec]
            have eb := Evl.Ex.new (o := .lst [V.int (c : Int), V.int (c : Int)]) nb
            refine ⟨l, b, stV st', _, rfl, rfl, eb _ _ hst5, upd_same, Evl.sz_of (by unfold stV; rw [List.length_map, List.length_map, List.length_reverse]; show st'.length + 2 ≤ 100000; omega), ?_⟩
            refine ⟨c :: c :: st', _, _, _, rfl, ?_, by simp only [List.length_cons]; omega, hi, by rw [hf]; exact fate_sg hz hs1, Evl.Ex.mut ((e34.trans e5).trans eb) nl⟩
            rw [stV_cons, stV_cons, List.append_assoc]
            exact upd_same
        · have e34 := e3.trans e4
          have hs' : ((sgOf zs).isSome && decide (0 < m)) = false := by rw [hs, Bool.false_and]
          refine Evl.s_when (b := !nameB zs) (Evl.et_not (Evl.et_B (Evl.ev_call (Evl.ea_cons (Evl.ev_var rfl) Evl.ea_nil) fun H1 e Q q _ => ⟨zs, rfl, ok, q⟩))) (fun hn G5 e5 => ?_) (fun hn G5 e5 => ?_)
          · have hn' : nameB zs = false := by
              cases h : nameB zs with
              | false => rfl
              | true =>
                rw [h] at hn
                cases hn
            exact ret rfl (e34.trans e5) (by rw [hf]; exact fate_no hz hs' hn')
          · have hn' : nameB zs = true := by
              cases h : nameB zs with
              | true => rfl
              | false =>
                rw [h] at hn
                cases hn
            exact ⟨st', _, _, _, rfl, e5 _ _ (e4 _ _ hst3), by omega, hi, by rw [hf]; exact fate_nm hz hs' hn', e34.trans e5⟩
    · rintro σ G ⟨st, o2, o3, o4, rfl, hst, hsl, hil, hf, eG⟩
      rw [hlen] at hf
      refine Evl.s_ret (v := outO (stp xs)) (Evl.ev_if (b := st.isEmpty) (Evl.et_test (Evl.ev_is (ev_isNil (Evl.ev_var rfl) hst) (by cases st <;> simp))) (fun hb => ?_) (fun hb => ?_)) fun H1 e1 => q.go (eG.trans e1)
      · have e0 : st = [] := List.isEmpty_iff.mp hb
        rw [hf, e0, fate_end0]
        exact Evl.ev_c
      · obtain ⟨m, st', rfl⟩ : ∃ m st', st = m :: st' := by
          cases st with
          | nil => cases hb
          | cons m st' => exact ⟨m, st', rfl⟩
        rw [hf, fate_end]
        exact Evl.ev_cb (Evl.ea_cons (Evl.ev_var rfl) Evl.ea_nil) fun H1 e Q q => ⟨a, _, rfl, .inl (Evl.ex_l (eG.trans e) ha), by rw [hlen]; exact q H1 (Evl.Ex.refl H1)⟩
end
end K04
/-! xs != ys, two lists whose items are equal each by their own ==. -/
namespace BW
open PySem PySem.Spec PyProof.Rows L2
section
variable {P : Program} {w : World} {A : Around} {R : Result → Shared → Prop} {l b : Addr} {N : Nat} {J : Nat → Shared → Prop}
theorem neq_turns (look : GQ.ListI P w A (fun e s' => R (.error e) s') l b N J) (fin : ∀ u, J N u → R (.ok (.ret (.bool false))) u) : ∀ (d i : Nat), i + d = N → ∀ u, J i u →
    wpAny (model P w) A.in1 (Builtin.«list.__eq__.loop» ⟨[.ref l, .ref b, rawInt i, rawInt 3], []⟩) (GQ.FinOf P w A R) (fun e s' => R (.error e) s') u := by
  intro d
  induction d with
  | zero =>
    intro i hi u hu
    obtain ⟨xs, ys, c1, c2, gl, gb, z1, z2, _⟩ := look i u hu
    have out : R (.ok (.ret (.bool false))) u := fin u (by
      have e : i = N := by omega
      exact e ▸ hu)
    have n1 : xs[((i : Nat) : Int).toNat]? = none := by
      simp
      omega
    have n2 : ys[((i : Nat) : Int).toNat]? = none := by
      simp
      omega
    obtain ⟨hp, g, dr, tk, os⟩ := u
    wp_walk using wpAny_loadPart' gl, wpAny_loadPart' gb
    rw [n1, n2]
    wp_walk using wpAny_loadPart' gl, wpAny_loadPart' gb
    show R (.ok (.ret (.bool (xs.size != ys.size)))) _
    rw [z1, z2]
    simpa using out
  | succ d ih =>
    intro i hi u hu
    obtain ⟨xs, ys, c1, c2, gl, gb, z1, z2, go⟩ := look i u hu
    have lx : i < xs.size := by omega
    have ly : i < ys.size := by omega
    have e1 : xs[((i : Nat) : Int).toNat]? = some xs[i] := by simp [lx]
    have e2 : ys[((i : Nat) : Int).toNat]? = some ys[i] := by simp [ly]
    have eI : ((i : Int) + 1) = ((i + 1 : Nat) : Int) := by omega
    have one := go lx ly
    obtain ⟨hp, g, dr, tk, os⟩ := u
    wp_walk using wpAny_loadPart' gl, wpAny_loadPart' gb
    rw [e1, e2]
    refine wpAny_bind (wpAny_mono one (fun r u2 h2 => ?_) fun _ _ x => x)
    obtain ⟨rfl, h2⟩ := h2
    have rest := ih (i + 1) (by omega) u2 h2
    obtain ⟨hp2, g2, dr2, tk2, os2⟩ := u2
    wp_walk
    rw [eI]
    exact ⟨plainId_quiet PySem.MeetsSeq3.plain_eq_loop _, codeAny_builtin PySem.MeetsSeq3.entry_eq_loop (by rw [Around.under_plainId PySem.MeetsSeq3.plain_eq_loop _]; exact rest)⟩
theorem neq_body (look : GQ.ListI P w A (fun e s' => R (.error e) s') l b N J) (fin : ∀ u, J N u → R (.ok (.ret (.bool false))) u) {u : Shared} (hu : J 0 u) :
    wpAny (model P w) A.in1 (Builtin.«list.__ne__» ⟨[.ref l, .ref b], []⟩) (GQ.FinOf P w A R) (fun e s' => R (.error e) s') u := by
  obtain ⟨xs, ys, c1, c2, gl, gb, z1, z2, _⟩ := look 0 u hu
  have rest := neq_turns (A := A) (R := R) look fin N 0 (Nat.zero_add N) u hu
  obtain ⟨hp, g, dr, tk, os⟩ := u
  have both := AutoSeq1.sub_list_list
  have same : ¬ (xs.size != ys.size) = true := by simp [z1, z2]
  wp_walk using wpAny_loadPart' gl, wpAny_loadPart' gb
  exact ⟨plainId_quiet PySem.MeetsSeq3.plain_eq_loop _, codeAny_builtin PySem.MeetsSeq3.entry_eq_loop (by rw [Around.under_plainId PySem.MeetsSeq3.plain_eq_loop _]; exact rest)⟩
theorem neq_lists {E : Value → Shared → Prop} {s : Shared} {Q : Value → Shared → Prop} (hu : A.units < cLine) (look : GQ.ListI P w A E l b N J) (fin : ∀ u, J N u → Q (.bool false) u) (h : J 0 s) : wpAny (model P w) A (richCompare .NotEq (.ref l) (.ref b)) Q E s := by
  obtain ⟨xs, ys, c1, c2, gl, gb, _⟩ := look 0 s h
  refine wpAny_richCompare_same_room (op := .NotEq) ⟨_, gl, rfl⟩ ⟨_, gb, rfl⟩ F.slot_list_ne (GQ.call_here F.slot_list_ne ⟨_, gl, rfl⟩ F.entry_list_ne (F.args_list_ne_2 _ _) ?_) hu
  exact neq_body (R := wants (fun v s' => v ≠ .notImplemented ∧ Q v s') E) look (fun u q => ⟨(fun x => nomatch x), fin u q⟩) h
end
/-- xs != ys: the items are equal, each to each -/
def rNeL (D : Eqv) : R2 := fun x y H Q => DList D x y H ∧ ∀ H', L2.Ext H H' → Q (.bl false) H'
theorem op_neL {X : Cx} {D : Eqv} {n : Nat} (hD : L2.Mon D) (h : EqG X n D) (hr : Room (n + 1) X.A) : OpR X (compareOp .NotEq) (rNeL D) := by
  intro pins s σ H x y v u Q I rx ry hq
  obtain ⟨⟨a, b, xs, ys, rfl, rfl, ha, hb, p⟩, q⟩ := hq
  cases (show v = Value.ref a from rx)
  cases (show u = Value.ref b from ry)
  show wpAny (model X.prog X.w) X.A (richCompare .NotEq (.ref a) (.ref b)) (EP X pins σ Q) X.xe s
  refine neq_lists (N := xs.length) hr.units0 (J := fun _ s' => LoopI X pins σ H s') (fun i s' z => ?_) (fun s' z => ?_) ⟨H, I, L2.Ext.rfl'⟩
  · have keep := z
    obtain ⟨H1, I1, e1⟩ := z
    obtain ⟨_, us, c1, r1, g1⟩ := I1.hok a _ (e1 _ _ ha)
    obtain ⟨_, vs, c2, r2, g2⟩ := I1.hok b _ (e1 _ _ hb)
    exact ⟨us.toArray, vs.toArray, c1, c2, g1, g2, by rw [List.size_toArray, ← r1.length], by rw [List.size_toArray, ← r2.length, ← p.1], fun k1 k2 => turnG hD h ⟨hr, rfl⟩ p r1 r2 i k1 k2 s' keep⟩
  · obtain ⟨H1, I1, e1⟩ := z
    exact ⟨.bl false, H1, I1, rfl, q H1 e1⟩
/-- two instances, told equal by the class of the left one -/
def DOwn (K : PySem.W.Frag) (R : Addr → Sp → Prop) (E : XK) : Eqv := fun x y H => ∃ a b C C' dx dy fs gs sp, x = .ref a ∧ y = .ref b ∧ H a = some (.ins C dx fs) ∧ H b = some (.ins C' dy gs) ∧ PySem.W.notFirst K C (.ref C') = true ∧ R C sp ∧ sp [x, y] H (fun v H' => v = .bl true ∧ L2.Ext H H') E
theorem eqG_own {X : Cx} {k : Nat} {CX : CXT} {E : XK} {R : Addr → Sp → Prop} (D : ∀ C sp, R C sp → Md X.prog X.w X.K X.mg X.base CX k "__eq__" C sp) (hx : Passes CX X E) : EqG X k (DOwn X.K R E) := by
  refine RcG.eqG (fun A pins s σ H x y u v sb I rx ry d => ?_) fun _ _ _ d => let ⟨a, b, _, _, _, _, _, _, _, hx, hy, _⟩ := d; ⟨a, b, hx, hy⟩
  obtain ⟨a, b, C, C', dx, dy, fs, gs, sp, rfl, rfl, ha, hb, hn, hR, q⟩ := d
  cases (show u = Value.ref a from rx)
  refine run_eqO (D C sp hR) sb.room sb.fr hx I ha ry (.inr ⟨b, C', dy, gs, rfl, hb, rfl⟩) hn q fun z w s' H' rz I' qz => ?_
  obtain ⟨rfl, e⟩ := qz
  exact ⟨rz, H', I', e⟩
end BW
namespace K04
open PySem PySem.Spec PyProof.Rows L2 BW LamX
abbrev sParts : Stmt := topS 42
section
variable {P : Program} {w : World} {K : PySem.W.Frag} {mg : Str → Option Value} {base : Heap} {p L : Addr} {r : RC} {CB : Addr}
theorem RgK.isLeaf (T : RgK K r) (t : Tr) : isAt r r.L (some t) = t.isLeaf := by
  cases t with
  | leaf z => exact decide_eq_true rfl
  | node s a b =>
    refine decide_eq_false fun h => ?_
    obtain ⟨_, h⟩ := T.leaf h
    cases h
theorem RgK.isOf (T : RgK K r) (s u : Sg) (a b : Tr) : isAt r (r.of u) (some (.node s a b)) = decide (s = u) := by
  by_cases h : s = u
  · subst h
    rw [decide_eq_true rfl]
    exact decide_eq_true rfl
  · rw [decide_eq_false h]
    exact decide_eq_false fun e => h (T.of_inj e)
theorem shaped3 (a b c : Bool) : SeqAt.shaped (.list [.bool a, .bool b, .bool c]) = true := by
  cases a <;> cases b <;> cases c <;> decide
theorem lay3 (a b c : Bool) : PyData.canLay0 (.list [.bool a, .bool b, .bool c]) = true := by
  cases a <;> cases b <;> cases c <;> decide
theorem ev_isG {g : Addr} (T : RgK K r) (kG : ∀ C, IsRg r C → PySem.W.kitOne K (.ref C) (.ref g) = some true) {ta : TE} {σ : L2.St} {H : Hp} {v : V} {t : Tr} (ha : Evl.Ev ta σ H v) (h : RegAt r H t v) : Evl.Ev (tCB (rIsi K) (tCons ta (tCons (tC (.ref g)) tNil))) σ H (.bl true) :=
  Evl.ev_cb (Evl.ea_cons ha (Evl.ea_cons Evl.ev_c Evl.ea_nil)) fun H1 e _ q => ⟨v, .ref g, _, .ref g, true, rfl, .own g, T.tyx (h.mono e), kG _ (isRg_at r t), q H1 (Evl.Ex.refl H1)⟩
theorem ev_eqMade (T : RgK K r) {d : Nat} {ta tb : TE} {σ : L2.St} {H : Hp} {x v : V} {t u : Tr} (ha : Evl.Ev ta σ H x) (hx : RegAt r H t x) (hd : t.depth ≤ d) (hb : Evl.Ev tb σ H v) (hu : TreeAt H u v) (hn : TrN u) (hud : u.depth ≤ 2) :
    Evl.Ev (tOp (rEqO K (REq r d) E0) ta (tCall (spMadeT r 2) [] E0 (tCons tb tNil))) σ H (.bl (decide (t = u))) := fun H1 e Q q => ha H1 e _ fun H2 e2 => hb H2 (e.trans e2) _ fun H3 e3 => by
  have e03 := (e.trans e2).trans e3
  refine ⟨v, u, rfl, hu.mono e03, hn, hud, Nat.le_refl _, fun y H4 e4 hy => ?_⟩
  obtain ⟨p, dx, fs, rfl, S⟩ := (hx.mono (e03.trans e4)).see
  obtain ⟨p', dy, gs, rfl, S'⟩ := hy.see
  exact ⟨p, _, dx, fs, _, _, rfl, S.at_, .inr ⟨p', _, dy, gs, rfl, S'.at_, rfl⟩, T.nf _ _ (isRg_at r t) (isRg_at r u), ⟨isRg_at r t, rfl⟩, .ref p, .ref p', t, some u, rfl, hx.mono (e03.trans e4), rfl, hd, .reg hy, fun H5 e5 => q H5 (((e2.trans e3).trans e4).trans e5)⟩
def spParts (r : RC) : Sp := fun vs H Q _ => ∃ (v x : V) (t : Tr), vs = [v, x] ∧ TreeAt H t v ∧ TrN t ∧ t.depth ≤ 2 ∧ RegAt r H t x ∧ Evl.RetV (.bl true) H Q
theorem scParts : FnScope ["_law_tree_here", "_law_region", "_law_kinds"] ["_law_tree_here", "_law_region"] (defScope sParts) := ⟨rfl, rfl, rfl, by decide +kernel, rfl, by decide +kernel, by decide +kernel⟩
theorem ok_parts {f fM g : Addr} {fd fdM : FuncData} {k : Nat} (X : Tx mg) (T : RgK K r) (G : RgG mg r) (B : RgB K mg g) (kG : ∀ C, IsRg r C → PySem.W.kitOne K (.ref C) (.ref g) = some true) (D : EqAt P w K mg base r (k + 1) 2) (M : Df P w K mg base (k + 1) "_law_made" ["_law_tree_here"] (spMadeT r 2) fM fdM)
    (F : Fun K "_law_parts_right" "_law_parts_right" sParts f fd) : FnOk P w K mg base CX0 (k + 2) f fd ["_law_tree_here", "_law_region"] (spParts r) := by
  refine F.ok scParts (fun vs H Q E h => ?_) (fun cdv A outer s H vs Q E hr h => ?_)
  · obtain ⟨v, x, t, rfl, _⟩ := h
    rfl
  · obtain ⟨v, x, t, rfl, ht, hn, hd, hx, q⟩ := h
    have nd := scParts.nd
    refine ⟨_, pss_cons (ps_if (PW.pt (pw_or (pt_not (pt_val (pe_callB call_isi (by rfl) X.isi (by decide +kernel) (pa_cons (pv 1) (pa_cons (pe_glob (v := .ref g) (by rfl) B.nm rfl) pa_nil)))))
          (pw_or1 (pt_cmpR op_ne (pe_callB call_isi (by rfl) X.isi (by decide +kernel) (pa_cons (pv 1) (pa_cons (pe_glob (v := .ref r.L) (by rfl) G.gL rfl) pa_nil))) (pe_callB call_isi (by rfl) X.isi (by decide +kernel) (pa_cons (pv 0) (pa_cons (pe_bltn (v := .ty "str") (by rfl) X.str (by decide +kernel) rfl) pa_nil))) (nomark _))))) (pss_one (ps_ret pe_bl)) pss_nil)
      (pss_cons (ps_if (pt_val (pe_callB call_isi (by rfl) X.isi (by decide +kernel) (pa_cons (pv 0) (pa_cons (pe_bltn (v := .ty "str") (by rfl) X.str (by decide +kernel) rfl) pa_nil)))) (pss_one (ps_ret (pe_cmpR op_eq (pe_fld (pv 1) rfl) (pv 0) (nomark _)))) pss_nil)
      (pss_cons (ps_set (i := 2) nd rfl (.inl rfl) (pe_lst (pa_cons (pe_callB call_isi (by rfl) X.isi (by decide +kernel) (pa_cons (pv 1) (pa_cons (pe_glob (v := .ref r.S) (by rfl) G.gS rfl) pa_nil))) (pa_cons (pe_callB call_isi (by rfl) X.isi (by decide +kernel) (pa_cons (pv 1) (pa_cons (pe_glob (v := .ref r.C) (by rfl) G.gC rfl) pa_nil))) (pa_cons (pe_callB call_isi (by rfl) X.isi (by decide +kernel) (pa_cons (pv 1) (pa_cons (pe_glob (v := .ref r.R) (by rfl) G.gR rfl) pa_nil))) pa_nil)))))
      (pss_cons (ps_if (pt_cmpR (op_neD hr.units) (pv 2) (pe_lst (pa_cons (pe_cmpR op_eq (pe_ix ix_tup (pv 0) pe_int (fun _ _ => rfl)) pe_str (nomark _)) (pa_cons (pe_cmpR op_eq (pe_ix ix_tup (pv 0) pe_int (fun _ _ => rfl)) pe_str (nomark _)) (pa_cons (pe_cmpR op_eq (pe_ix ix_tup (pv 0) pe_int (fun _ _ => rfl)) pe_str (nomark _)) pa_nil)))) (nomark _)) (pss_one (ps_ret pe_bl)) pss_nil)
      (pss_one (ps_ret (pe_and (pe_cmpR (op_eqO D hr pass0) (pe_fld (pv 1) rfl) (pe_df M hr (pa_cons (pe_ix ix_tup (pv 0) pe_int (fun _ _ => rfl)) pa_nil)) (nomark _)) (pe_one (pe_cmpR (op_eqO D hr pass0) (pe_fld (pv 1) rfl) (pe_df M hr (pa_cons (pe_ix ix_tup (pv 0) pe_int (fun _ _ => rfl)) pa_nil)) (nomark _))))))))), ?_⟩
    refine Evl.q_when (b := false) (Evl.et_or (a := false) (Evl.et_is (Evl.et_not (Evl.et_B (ev_isG T kG (Evl.ev_var rfl) hx))) rfl) (fun _ => Evl.et_is (Evl.et_test (Evl.ev_op (T.ev_is (Evl.ev_var rfl) (.reg hx) (.inl rfl)) (ev_isT rfl ht hn) (Evl.rv_ne rfl))) (by rw [T.isLeaf]; simp))) (fun z => nomatch z) (fun _ H1 e1 => ?_)
    have ht1 := ht.mono e1
    have hx1 := hx.mono e1
    refine Evl.q_when (b := t.isLeaf) (Evl.et_B (ev_isT rfl ht1 hn)) (fun hb H2 e2 => ?_) (fun hb H2 e2 => ?_)
    · cases t with
      | node _ _ _ => cases hb
      | leaf z =>
        cases ht
        obtain ⟨p', dx, l, rfl, hp, _⟩ := hx1.mono e2
        exact Evl.s_ret (v := .bl true) (Evl.ev_is (Evl.ev_op (ev_fld (Evl.ev_var rfl) hp (T.cl _ (.inl rfl)) (T.na _ (.inl rfl) _ (by decide)) rfl) (Evl.ev_var rfl) (Evl.rv_eq rfl)) (by simp)) fun H3 e3 => q.go ((e1.trans e2).trans e3)
    · cases t with
      | leaf z => cases hb
      | node s a b =>
        have hd' : 1 + max a.depth b.depth ≤ 2 := hd
        have hx2 := hx1.mono e2
        have kd : ∀ {G : Hp} {D : Addr} (u : Sg), D = r.of u → RegAt r G (.node s a b) x → Evl.Ev (tCB (rIsi K) (tCons (tVar 1) (tCons (tC (.ref D)) tNil))) [some v, some x, none] G (.bl (decide (s = u))) := fun {G D} u hD h => by
          subst hD
          have e := T.ev_is (ta := tVar 1) (σ := [some v, some x, none]) (D := r.of u) (Evl.ev_var rfl) (.reg h) (isRg_at r (.node u a b))
          rw [T.isOf] at e
          exact e
        refine Evl.q_asgL (xs := [.bl (decide (s = .plus)), .bl (decide (s = .star)), .bl (decide (s = .minus))]) (Evl.el_lst (Evl.ea_cons (kd .plus rfl hx2) (Evl.ea_cons (kd .star rfl hx2) (Evl.ea_cons (kd .minus rfl hx2) Evl.ea_nil))) (by show 3 ≤ 100000; decide)) fun l H3 nl e3 hl => ?_
        have e13 := (e1.trans e2).trans e3
        obtain ⟨_, _, _, _, g0, _, _⟩ := node_at (K := K) (σ := [some v, some x, some (.ref l)]) (i := 0) rfl (ht.mono e13)
        have ez : ∀ u : Sg, Evl.Ev (tOp rEq (tOp (rIxT K) (tVar 0) (tC (.int 0))) (tC (.str u.str))) [some v, some x, some (.ref l)] H3 (.bl (decide (s = u))) := fun u => Evl.ev_is (Evl.ev_op g0 Evl.ev_c (Evl.rv_eq rfl)) (congrArg V.bl (sgn_eq s u))
        refine Evl.q_when (b := false) (Evl.et_test (Evl.ev_opL (x := .ref l) (Evl.ev_var rfl) (Evl.el_lst (Evl.ea_cons (ez .plus) (Evl.ea_cons (ez .star) (Evl.ea_cons (ez .minus) Evl.ea_nil))) (by show 3 ≤ 100000; decide)) (fun q' G hq eG => fun G2 e2 Q k => ?_))) (fun z => nomatch z) (fun _ H4 e4 => ?_)
        · refine ⟨_, _, .lst (Evl.sq_of (e2 _ _ (eG _ _ hl))) (.cons (.bl _) (.cons (.bl _) (.cons (.bl _) .nil))), .lst (Evl.sq_of (e2 _ _ hq)) (.cons (.bl _) (.cons (.bl _) (.cons (.bl _) .nil))), shaped3 _ _ _, shaped3 _ _ _, ?_⟩
          rw [PySem.SeqAt.eqv_refl _ (lay3 _ _ _)]
          exact k G2 (Evl.Ex.refl G2)
        · have e14 := e13.trans e4
          obtain ⟨y1, y2, t1, t2, _, g1, g2⟩ := node_at (K := K) (σ := [some v, some x, some (.ref l)]) (i := 0) rfl (ht.mono e14)
          obtain ⟨p', x1, x2, rfl, U⟩ := T.parts (hx.mono e14)
          refine Evl.s_ret (v := .bl true) (Evl.ev_is (Evl.ev_andV (a := decide (a = a)) (b := decide (b = b)) (ev_eqMade T (U.one rfl) U.ra (by omega) g1 t1 hn.1 (by omega)) fun _ => ev_eqMade T (U.other rfl) U.rb (by omega) g2 t2 hn.2 (by omega)) (by simp)) fun H5 e5 => q.go (e14.trans e5)
end
end K04
namespace K04
open PySem PySem.Spec PyProof.Rows L2 BW LamX
theorem ltCps_lt : ∀ {a b : List Nat}, a < b → ltCps a b = true
  | _, _, .nil => rfl
  | _, _, @List.Lex.rel _ _ a _ b _ h => by
    unfold ltCps
    have h' : a < b := h
    rw [decide_eq_true h', Bool.true_or]
  | _, _, @List.Lex.cons _ _ a r t h => by
    unfold ltCps
    rw [ltCps_lt h, beq_self_eq_true, Bool.true_and, Bool.or_true]
theorem rising_pair : ∀ {ys : List Str} {x : Str}, risingS x ys = true → (x :: ys).Nodup → (x :: ys).Pairwise fun a b => a.cps.toList < b.cps.toList
  | [], x, _, _ => List.pairwise_singleton _ _
  | y :: ys, x, h, nd => by
    have h' : (!ltCps y.cps.toList x.cps.toList && risingS y ys) = true := h
    rw [Bool.and_eq_true] at h'
    obtain ⟨nx, nd'⟩ := List.nodup_cons.mp nd
    have ih := rising_pair h'.2 nd'
    have lt : x.cps.toList < y.cps.toList := by
      have h1 : ¬ y.cps.toList < x.cps.toList := fun e => by
        rw [ltCps_lt e] at h'
        cases h'.1
      rcases List.le_iff_lt_or_eq.mp (List.not_lt.mp h1) with h2 | h2
      · exact h2
      · exact absurd (str_ext (Array.toList_inj.mp h2)) fun e => nx (by rw [e]; exact List.mem_cons_self)
    refine List.pairwise_cons.mpr ⟨fun z hz => ?_, ih⟩
    rcases List.mem_cons.mp hz with rfl | hz
    · exact lt
    · exact List.lt_trans lt ((List.pairwise_cons.mp ih).1 z hz)
theorem sorted_pair {ys : List Str} (h : sortedS ys = true) (nd : ys.Nodup) : ys.Pairwise fun a b => a.cps.toList < b.cps.toList := by
  cases ys with
  | nil => exact .nil
  | cons x r => exact rising_pair h nd
theorem cell_ok {cs : List Str} (h1 : ∀ z ∈ cs, nameB z = true) (h2 : cs.Pairwise fun a b => a.cps.toList < b.cps.toList) : cellO (some (cs.map V.str)) = true := by
  show ((cs.map V.str).all isName && ascB (cs.map V.str)) = true
  rw [Bool.and_eq_true]
  constructor
  · rw [List.all_map]
    exact List.all_eq_true.mpr h1
  · unfold ascB
    rw [List.all_eq_true]
    intro i hi
    have hi' : i < cs.length - 1 := by
      have := List.mem_range.mp hi
      rw [List.length_map] at this
      exact this
    have e1 : (cs.map V.str).getD i .non = .str (cs[i]'(by omega)) := by
      rw [List.getD_eq_getElem?_getD, List.getElem?_map, List.getElem?_eq_getElem (by omega)]
      rfl
    have e2 : (cs.map V.str).getD (i + 1) .non = .str (cs[i + 1]'(by omega)) := by
      rw [List.getD_eq_getElem?_getD, List.getElem?_map, List.getElem?_eq_getElem (by omega)]
      rfl
    rw [e1, e2]
    exact decide_eq_true (List.pairwise_iff_getElem.mp h2 i (i + 1) (by omega) (by omega) (by omega))
def zzz9 : Str := "zzz9"
theorem zzz_name : nameB zzz9 = true := by decide +kernel
/-- all names, and the odd one, ascending -/
structure AllNm (ns ys : List Str) : Prop where
  nm : ∀ z ∈ ys, nameB z = true
  pw : ys.Pairwise fun a b => a.cps.toList < b.cps.toList
  ln : ys.length = ns.length + 1
theorem all_nm {ns ys : List Str} {m : Nat} (h : Nms ns m) (pm : ys.Perm (ns ++ [zzz9])) (srt : sortedS ys = true) : AllNm ns ys := by
  obtain ⟨hl, hn, nd, _⟩ := h
  have nd' : ys.Nodup := by
    rw [pm.nodup_iff, List.nodup_append]
    refine ⟨nd, by simp, fun a ha b hb => ?_⟩
    rw [List.mem_singleton.mp hb]
    exact (hn a ha).2
  refine ⟨fun z hz => ?_, sorted_pair srt nd', by rw [pm.length_eq, List.length_append]; rfl⟩
  rcases List.mem_append.mp (pm.mem_iff.mp hz) with h | h
  · exact (hn z h).1
  · rw [List.mem_singleton.mp h]
    exact zzz_name
section
variable {P : Program} {w : World} {K : PySem.W.Frag} {mg : Str → Option Value} {base : Heap} {p L : Addr} {r : RC} {CB CW : Addr}
theorem map_sub : ∀ {ys : List Str} {zs : List V}, zs.Sublist (ys.map V.str) → ∃ cs : List Str, zs = cs.map V.str ∧ cs.Sublist ys := fun {ys zs} h => by
  obtain ⟨cs, hs, e⟩ := List.sublist_map_iff.mp h
  exact ⟨cs, e, hs⟩
/-- [x for x in xs if t], t draws once -/
theorem cell_lc {tl : TE} {tt : TT} {σ : L2.St} {H : Hp} {vs : List Nat} {j n M : Nat} {Pl : List V → Prop} (hl : Evn tl σ H Pl) (hM : ∀ xs, Pl xs → xs.length ≤ M) (hM2 : M ≤ 1000) (pn : PenL H p L n) (hn : n + M ≤ 100000) (hw : ∀ x, wipe ((wipe σ vs).set j (some x)) vs = wipe σ vs) (hj : ∀ x, ((wipe σ vs).set j (some x))[j]? = some (some x))
    (ht : ∀ (x : V) G m, Kp p H G → PenL G p L m → m + 1 ≤ 100000 → ∀ Q : Bool → Hp → Prop, (∀ b G2, Kp p G G2 → PenL G2 p L (m + 1) → Q b G2) → tt ((wipe σ vs).set j (some x)) G Q) {Q : VK}
    (q : ∀ a zs xs H', Pl xs → zs.Sublist xs → Kp p H H' → PenL H' p L (n + M) → H a = none → H' a = some (.lst zs) → Q (.ref a) H') : tLc (iList K tl) (gName j) tt (tVar j) vs σ H Q :=
  hl H (Evl.Ex.refl H) _ fun a xs H1 na e1 ha px => ⟨a, rfl, ⟨xs, Evl.sq_of ha⟩, fun D hD => by
    have p1 := pn.same e1
    have neD := p1.ne hD
    have neA := pn.ne na
    refine lc_it (walk_list (K := K) (a := a) (xs := xs)) (fun i G => ∃ zs : List V, G D = some (.lst zs) ∧ zs.Sublist (xs.take i) ∧ Kp p H1 G ∧ PenL G p L (n + i) ∧ i ≤ xs.length) ⟨[], upd_same, List.nil_sublist _, Same.kp (same_new hD), p1.same (same_new hD), Nat.zero_le _⟩ (fun i G hi hp => ?_) (fun i x G G' hi hp hy => ?_) (fun G hp => ?_)
    · obtain ⟨_, _, _, k, _⟩ := hp
      exact Evl.sq_of (k _ _ neA.1 ha)
    · obtain ⟨zs, h1, h2, k, pG, _⟩ := hp
      obtain ⟨rfl, hx⟩ := hy
      have lM := hM xs px
      refine ⟨hw _, ?_⟩
      refine ht x _ (n + i) ((Same.kp e1).trans k) pG (by omega) _ fun b G2 k2 p2 => ?_
      have hd2 := k2 _ _ neD.1 h1
      have tk : xs.take (i + 1) = xs.take i ++ [x] := by
        rw [List.take_add_one, hx]
        rfl
      have lz : zs.length ≤ i := by
        have := h2.length_le
        rw [List.length_take] at this
        omega
      cases b with
      | true =>
        rw [if_pos rfl]
        refine ⟨x, hj x, zs, hd2, small_of (by omega), zs ++ [x], upd_same, ?_, ?_, ?_, hi⟩
        · rw [tk]
          exact h2.append (List.Sublist.refl _)
        · exact fun c o nc hc => by
            rw [upd_ne (ne_of_none hc hD)]
            exact (k.trans k2) c o nc hc
        · have e : n + (i + 1) = n + i + 1 := by omega
          rw [e]
          exact p2.over neD
      | false =>
        rw [if_neg Bool.false_ne_true]
        refine ⟨zs, hd2, ?_, k.trans k2, p2.up (by omega), hi⟩
        rw [tk]
        exact h2.trans (List.sublist_append_left _ _)
    · obtain ⟨zs, h1, h2, k, pG, _⟩ := hp
      rw [List.take_length] at h2
      have lM := hM xs px
      exact q D zs xs G px h2 ((Same.kp e1).trans k) (pG.up (by omega)) (Evl.fresh_back e1 hD) h1⟩
end
end K04
namespace K04
open PySem PySem.Spec PyProof.Rows L2 BW LamX
abbrev sCells : Stmt := topS 43
theorem name_strOk {z : Str} (h : nameB z = true) : PySem.PyData.strOk z = true := by
  have h1 := h
  rw [name_okL, Bool.and_eq_true] at h1
  have h2 : ∀ c ∈ z.cps.toList, (isLet c || isDig c) = true := by
    have h3 := h1.2
    intro c hc
    unfold okL at h3
    split at h3
    · cases h3
    · rename_i c0 r0 he
      rw [Bool.and_eq_true] at h3
      rw [he] at hc
      exact List.all_eq_true.mp h3.2 c hc
  have h4 : ∀ c ∈ letters.cps.toList ++ digits.cps.toList, c < 0x110000 := by decide +kernel
  show z.cps.all (fun c => decide (c < 0x110000)) = true
  rw [Array.all_eq_true_iff_forall_mem]
  intro c hc
  refine decide_eq_true (h4 c (List.mem_append.mpr ?_))
  have h5 := h2 c (Array.mem_toList_iff.mpr hc)
  rw [Bool.or_eq_true] at h5
  rcases h5 with h5 | h5
  · exact .inl (of_decide_eq_true h5)
  · exact .inr (of_decide_eq_true h5)
section
variable {P : Program} {w : World} {K : PySem.W.Frag} {mg : Str → Option Value} {base : Heap} {p L : Addr} {r : RC} {CB CW : Addr}
theorem q_asgX {te : TE} {i : Nat} {D : Ends} {tz : TS} {σ : L2.St} {H : Hp} (h : te σ H (fun v H1 => tz D (σ.set i (some v)) H1)) : tSeq (tAsg te (gName i)) tz D σ H := h
theorem names_elm {H : Hp} {cs : List Str} (h : ∀ z ∈ cs, nameB z = true) : ∀ x ∈ cs.map V.str, Elm H x := fun x hx => by
  obtain ⟨z, hz, rfl⟩ := List.mem_map.mp hx
  exact .str (Nat.le_trans (name_len (h z hz)) (by decide)) (name_strOk (h z hz))
/-- region.is_over(a new cell) -/
theorem ev_over {ta tb : TE} {σ : L2.St} {H : Hp} {x : V} {t : Tr} {cs : List Str} (ha : Evl.Ev ta σ H x) (hx : RegAt r H t x) (hd : t.depth ≤ 2) (hc : cellO (some (cs.map V.str)) = true) (hl : cs.length ≤ 20)
    (hb : ∀ H1, Evl.Ex H H1 → ∀ Q : VK, (∀ c H2, Evl.Ex H1 H2 → Seen H2 c (some (cs.map V.str)) → Q c H2) → tb σ H1 Q) : Evl.Ev (tMethD (ROver r CW) "is_over" E0 ta (tCons tb tNil)) σ H (.bl (t.over cs)) := fun H1 e Q q => ha H1 e _ fun H2 e2 => by
  obtain ⟨p, dx, fs, rfl, S⟩ := (hx.mono (e.trans e2)).see
  refine ⟨p, _, dx, fs, _, rfl, S.at_, S.ovr, ⟨isRg_at r t, rfl⟩, hb H2 (e.trans e2) _ fun c H3 e3 sn => ?_⟩
  exact ⟨.ref p, c, t, _, rfl, hx.mono ((e.trans e2).trans e3), rfl, hd, sn, .inl ⟨cs, rfl, hl, hc, fun H4 e4 => q H4 ((e2.trans e3).trans e4)⟩⟩
theorem ev_overK {ta tb : TE} {σ : L2.St} {H : Hp} {x : V} {t : Tr} {cs : List Str} (ha : Evl.Ev ta σ H x) (hx : RegAt r H t x) (hd : t.depth ≤ 2) (hc : cellO (some (cs.map V.str)) = true) (hl : cs.length ≤ 20)
    (hb : ∀ H1, Evl.Ex H H1 → ∀ Q : VK, (∀ c H2, Evl.Ex H1 H2 → Seen H2 c (some (cs.map V.str)) → Q c H2) → tb σ H1 Q) : Evl.Ev (tMethK (ROver r CW) "is_over" 1 E0 ta (tCons tb tNil)) σ H (.bl (t.over cs)) := fun H1 e Q q => ha H1 e _ fun H2 e2 => by
  obtain ⟨p, dx, fs, rfl, S⟩ := (hx.mono (e.trans e2)).see
  refine ⟨p, _, dx, fs, _, rfl, S.at_, S.ovr, ⟨isRg_at r t, rfl⟩, hb H2 (e.trans e2) _ fun c H3 e3 sn => ?_⟩
  exact ⟨rfl, .ref p, c, t, _, rfl, hx.mono ((e.trans e2).trans e3), rfl, hd, sn, .inl ⟨cs, rfl, hl, hc, fun H4 e4 => q H4 ((e2.trans e3).trans e4)⟩⟩
theorem shaped2 (a b : Bool) : SeqAt.shaped (.list [.bool a, .bool b]) = true := by
  cases a <;> cases b <;> decide
theorem lay2 (a b : Bool) : PyData.canLay0 (.list [.bool a, .bool b]) = true := by
  cases a <;> cases b <;> decide
theorem over_nil : ∀ t : Tr, t.over [] = false
  | .leaf z => by simp [Tr.over]
  | .node .plus a b => by simp [Tr.over, over_nil a, over_nil b]
  | .node .star a b => by simp [Tr.over, over_nil a]
  | .node .minus a b => by simp [Tr.over, over_nil a]
def spCells (r : RC) : Sp := fun vs H Q _ => ∃ (p L a : Addr) (n m : Nat) (v x : V) (t : Tr) (ns : List Str), vs = [.ref p, v, x, .ref a] ∧ PenL H p L n ∧ n + 24 ≤ 100000 ∧ m ≤ 5 ∧ TreeAt (hide p H) t v ∧ TrN t ∧ t.depth ≤ 2 ∧ RegAt r (hide p H) t x ∧ a ≠ p ∧ H a = some (.lst (ns.map V.str)) ∧ Nms ns m ∧
  ∀ H', Kp p H H' → PenL H' p L (n + 24) → Q (.bl true) H'
theorem scCells : FnScope ["_law_pen_here", "_law_tree_here", "_law_region", "_law_names_here", "_law_turned", "_law_cell", "_law_due", "_law_told", "_law_name"] ["_law_pen_here", "_law_tree_here", "_law_region", "_law_names_here"] (defScope sCells) := ⟨rfl, rfl, rfl, by decide +kernel, rfl, by decide +kernel, by decide +kernel⟩
theorem ok_cells {f fD fO : Addr} {fd fdD fdO : FuncData} {k : Nat} (X : Tx mg) (OV : OverAt P w K mg base r CW (k + 1)) (DR : Df P w K mg base (k + 1) "_law_draw" ["_law_pen_here", "_law_many"] spDraw fD fdD) (O : Df P w K mg base (k + 1) "_law_over" ["_law_tree_here", "_law_cell"] (spOverT K 2) fO fdO)
    (F : Fun K "_law_cells_right" "_law_cells_right" sCells f fd) : FnOk P w K mg base CX0 (k + 2) f fd ["_law_pen_here", "_law_tree_here", "_law_region", "_law_names_here"] (spCells r) := by
  refine F.ok scCells (fun vs H Q E h => ?_) (fun cdv A outer s H vs Q E hr h => ?_)
  · obtain ⟨p, L, a, n, m, v, x, t, ns, rfl, _⟩ := h
    rfl
  · obtain ⟨p, L, a, n, m, v, x, t, ns, rfl, hP, hn, hm, ht, hN, hd, hx, na, ha, hns, q⟩ := h
    have nd := scCells.nd
    have OM : ∀ C sp, ROver r CW C sp → Md P w K mg base (L2.CX P w) (k + 1) "is_over" C sp := fun C sp h => (OV C sp h).1
    have OK : ∀ C sp, ROver r CW C sp → MdK P w K mg base (L2.CX P w) (k + 1) "is_over" ["cell"] C sp := fun C sp h => (OV C sp h).2
    refine ⟨_, pss_cons (ps_for PassesOwn.never rfl (pi_range1 (by rfl) X.rng (pa_cons pe_int pa_nil)) (pg_name (i := 4) nd rfl (.inl rfl))
        (pss_cons (ps_setLc (i := 5) (own := [("_law_name", 8)]) (g := gName 8) rfl nd rfl rfl (sw_true rfl rfl rfl (by decide +kernel)) (pi_list (pe_callB cr_sortedS (by rfl) X.srt (by decide +kernel) (pa_cons (pe_op op_cat (pv 3) (pe_lst (pa_cons pe_str pa_nil))) pa_nil)))
          (blkOk_by (N := ["_law_pen_here", "_law_tree_here", "_law_region", "_law_names_here", "_law_turned", "_law_cell", "_law_due", "_law_told", "_law_name"]) (sc := defScope sCells) (by decide +kernel)) (fun _ _ _ _ _ => pg_name (i := 8) nd rfl (Or.inl rfl))
          (fun _ _ _ _ _ => pts_one (pt_cmpR op_gt (pe_df DR hr (pa_cons (pv 0) (pa_cons pe_int pa_nil))) pe_int (nomark _))) (fun _ _ _ _ _ => pv 8))
        (pss_cons (ps_par (i := 6) (j := 7) (by rfl) nd rfl rfl (by decide) rfl rfl (pa_cons (pe_df O hr (pa_cons (pv 1) (pa_cons (pv 5) pa_nil))) (pa_cons (pe_lst (pa_cons (pe_methD (pv 2) OM hr passL (pa_cons (pe_callTy call_list_of (by rfl) X.list (by decide +kernel) (pa_cons (pv 5) pa_nil)) pa_nil)) (pa_cons (pe_methD (pv 2) OM hr passL (pa_cons (pe_callTy call_tuple_of (by rfl) X.tuple (by decide +kernel) (pa_cons (pv 5) pa_nil)) pa_nil)) pa_nil))) pa_nil)) (by rfl))
        (pss_one (ps_if (PW.pt (pw_or (pt_cmpR (op_neD hr.units) (pv 7) (pe_lst (pa_cons (pv 6) (pa_cons (pv 6) pa_nil))) (nomark _)) (pw_or1 (pt_not (pt_val (pe_callB call_isi (by rfl) X.isi (by decide +kernel) (pa_cons (pe_ix ix_list (pv 7) pe_int (fun _ _ => rfl)) (pa_cons (pe_bltn (v := .ty "bool") (by rfl) X.bool (by decide +kernel) rfl) pa_nil)))))))) (pss_one (ps_ret pe_bl)) pss_nil)))))
      (pss_one (ps_ret (pe_cmpR op_isBl (pe_methK (ks := ["cell"]) (pv 2) OK hr passL (pk_cons (pe_tup pa_nil) pk_nil)) pe_bl (nomark _)))), ?_⟩
    have tG : ∀ {G : Hp}, Kp p H G → TreeAt G t v := fun k => (ht.mono (hide_kp k)).mono (hide_sub _ _)
    have xG : ∀ {G : Hp}, Kp p H G → RegAt r G t x := fun k => (hx.mono (hide_kp k)).mono (hide_sub _ _)
    refine q_forRD (p := p) (L := L) (M := 4) (C := fun i => i = 4) (m := 0) (by decide) (ed_c fun _ => ⟨4, rfl, by decide, rfl⟩) hP (by omega) fun c H1 hC hc4 k1 p1 => ?_
    subst hC
    refine ⟨fun i σ G => ∃ o4 o5 o6 o7, σ = [some (.ref p), some v, some x, some (.ref a), o4, o5, o6, o7, none] ∧ Kp p H G ∧ PenL G p L (n + 6 * i), ⟨none, none, none, none, rfl, k1, p1⟩, ?_, ?_⟩
    · rintro i σ G hi ⟨o4, o5, o6, o7, rfl, kG, pG⟩
      have haG := kG _ _ na ha
      refine q_asgX (cell_lc (Pl := fun xs => ∃ ys, xs = ys.map V.str ∧ AllNm ns ys) (M := 6) (fun G1 e Q k => ?_) ?_ (by decide) pG (by omega) (fun _ => rfl) (fun _ => rfl) (fun y G1 m1 k1 p1 hm1 Q kq => ?_) ?_)
      · refine ⟨.ref a, rfl, ?_⟩
        refine Evl.el_lst (vs := [.str zzz9]) (Evl.ea_cons Evl.ev_c Evl.ea_nil) (by show 1 ≤ 100000; decide) G1 (Evl.Ex.refl G1) _ fun b G2 nb e2 hb => ?_
        refine ⟨a, b, ns.map V.str, _, rfl, rfl, e2 _ _ (e _ _ haG), hb, Evl.sz_of (by rw [List.length_map, hns.1]; show m + 1 ≤ 100000; omega), fun c nc => ?_⟩
        refine ⟨c, ns ++ [zzz9], rfl, Evl.sq_of (by rw [List.map_append]; exact upd_same), by rw [List.length_append, hns.1]; show m + 1 < 64; omega, fun ys d pm srt nd' => ?_⟩
        have ec := Evl.Ex.new (o := .lst (ns.map V.str ++ [V.str zzz9])) nc
        have e' := e2.trans ec
        exact k d _ _ (Evl.fresh_back e' nd') (e'.trans (Evl.Ex.new nd')) upd_same ⟨ys, rfl, all_nm hns pm srt⟩
      · rintro _ ⟨ys, rfl, hA⟩
        rw [List.length_map, hA.ln, hns.1]
        omega
      · refine ed_drawC (M := 3) (i := 0) rfl (by decide) (by decide) G1 (Kp.refl _ _) m1 p1 hm1 _ fun u G2 k2 p2 hu => ?_
        obtain ⟨j, rfl, _, _⟩ := hu
        exact ⟨j, 0, rfl, rfl, _, rfl, kq _ _ k2 p2⟩
      · rintro c zs xs G2 ⟨ys, rfl, hA⟩ hs kk pp nc hc
        obtain ⟨cs, rfl, hs'⟩ := map_sub hs
        have hnm : ∀ z ∈ cs, nameB z = true := fun z hz => hA.nm z (hs'.subset hz)
        have hcell := cell_ok hnm (hA.pw.sublist hs')
        have hlen : cs.length ≤ 6 := by
          have h1 := hs'.length_le
          rw [hA.ln, hns.1] at h1
          omega
        have k02 := kG.trans kk
        refine (Evl.ev_call (sp := spOverT K 2) (E := E0) (dvs := []) (vs := [v, .ref c]) (z := .bl (t.over cs)) (Evl.ea_cons (Evl.ev_var rfl) (Evl.ea_cons (Evl.ev_var rfl) Evl.ea_nil)) fun G' e Q q _ => ⟨v, t, c, cs, rfl, (tG k02).mono e, hN, hd, Evl.ex_l e (Evl.sq_of hc), q⟩) G2 (Evl.Ex.refl G2) _ fun G3 e3 => ?_
        have seenL : ∀ G', Evl.Ex G2 G' → ∀ Q : VK, (∀ c' G'', Evl.Ex G' G'' → Seen G'' c' (some (cs.map V.str)) → Q c' G'') → ∀ c', G' c' = none → Q (.ref c') (upd G' c' (.lst (cs.map V.str))) := fun G' e Q k c' nc' => k _ _ (Evl.Ex.new nc') (.lst upd_same (by rw [List.length_map]; omega) (names_elm hnm))
        have seenT : ∀ G', Evl.Ex G2 G' → ∀ Q : VK, (∀ c' G'', Evl.Ex G' G'' → Seen G'' c' (some (cs.map V.str)) → Q c' G'') → ∀ c', G' c' = none → Q (.ref c') (upd G' c' (.tup (cs.map V.str))) := fun G' e Q k c' nc' => k _ _ (Evl.Ex.new nc') (.tup upd_same (by rw [List.length_map]; omega) (names_elm hnm))
        refine Evl.el_lst (vs := [.bl (t.over cs), .bl (t.over cs)]) (Evl.ea_cons (ev_over (Evl.ev_var rfl) ((xG k02).mono e3) hd hcell (by omega) fun G' e Q k => ⟨.ref c, rfl, c, _, rfl, .inl (Evl.sq_of (e _ _ (e3 _ _ hc))), seenL G' (e3.trans e) Q k⟩) (Evl.ea_cons (ev_over (Evl.ev_var rfl) ((xG k02).mono e3) hd hcell (by omega) fun G' e Q k => ⟨.ref c, rfl, c, _, rfl, .inl ⟨Evl.sq_of (e _ _ (e3 _ _ hc)), seenT G' (e3.trans e) Q k⟩⟩) Evl.ea_nil)) (by show 2 ≤ 100000; decide) G3 (Evl.Ex.refl G3) _ fun d G4 nd4 e4 hd4 => ⟨_, _, rfl, ?_⟩
        refine Evl.s_when (b := false) (Evl.et_or (a := false) (Evl.et_test (Evl.ev_opL (x := .ref d) (Evl.ev_var rfl) (Evl.el_lst (vs := [.bl (t.over cs), .bl (t.over cs)]) (Evl.ea_cons (Evl.ev_var rfl) (Evl.ea_cons (Evl.ev_var rfl) Evl.ea_nil)) (by show 2 ≤ 100000; decide)) fun q' G' hq eG => fun G'' e2 Q k => ?_)) fun _ => Evl.et_is (Evl.et_not (Evl.et_B (ev_isi (Evl.ev_op (Evl.ev_var rfl) Evl.ev_c (Evl.rv_ixL (Evl.sq_of hd4) (atI_nat (j := 0) rfl))) (.bl (t.over cs)) (kd_bool (H := H) (.bl (t.over cs)))))) rfl) (fun z => nomatch z) (fun _ G5 e5 => ?_)
        · refine ⟨_, _, .lst (Evl.sq_of (e2 _ _ (eG _ _ hd4))) (.cons (.bl _) (.cons (.bl _) .nil)), .lst (Evl.sq_of (e2 _ _ hq)) (.cons (.bl _) (.cons (.bl _) .nil)), shaped2 _ _, shaped2 _ _, ?_⟩
          rw [PySem.SeqAt.eqv_refl _ (lay2 _ _)]
          exact k G'' (Evl.Ex.refl G'')
        · have e25 := (e3.trans e4).trans e5
          refine ⟨_, _, _, _, rfl, k02.trans (Same.kp e25), ?_⟩
          have e : n + 6 * (i + 1) = n + 6 * i + 6 := by omega
          rw [e]
          exact pp.same e25
    · rintro σ G ⟨o4, o5, o6, o7, rfl, kG, pG⟩
      refine Evl.s_ret (v := .bl true) (Evl.ev_is (Evl.ev_op (x := .bl (t.over [])) (y := .bl false) (ev_overK (Evl.ev_var rfl) (xG kG) hd (cs := []) rfl (by show 0 ≤ 20; decide) fun G' e Q k => ?_) Evl.ev_c (fun G' _ Q q => ⟨_, _, rfl, rfl, q G' (Evl.Ex.refl G')⟩)) (by rw [over_nil]; rfl)) fun G' e => q G' (kG.trans (Same.kp e)) (pG.same e)
      exact ⟨Nat.zero_le _, fun c nc => k _ _ (Evl.Ex.new nc) (.tup upd_same (by show 0 ≤ 20; decide) (fun x h => nomatch h))⟩
end
end K04
namespace K04
open PySem PySem.Spec PyProof.Rows L2 BW LamX
theorem lands_eq {t : Tr} {ys zs : List Str} (h1 : Lands t ys) (h2 : Lands t zs) : ys = zs := by
  have pm : ys.Perm zs := (List.perm_ext_iff_of_nodup h1.nd h2.nd).mpr fun a => (h1.mem a).trans (h2.mem a).symm
  refine List.Perm.eq_of_pairwise (le := fun a b : Str => a.cps.toList < b.cps.toList) (fun a b _ _ hab hba => ?_) (sorted_pair h1.srt h1.nd) (sorted_pair h2.srt h2.nd) pm
  exact absurd (List.lt_trans hab hba) (List.lt_irrefl _)
theorem sg_strOk (s : Sg) : PySem.PyData.strOk s.str = true := by cases s <;> decide +kernel
theorem data_lay : ∀ {t : Tr}, TrN t → t.data.canLay0 = true
  | .leaf z, h => name_strOk h
  | .node s a b, h => by
    show (PySem.PyData.strOk s.str && (a.data.canLay0 && (b.data.canLay0 && true))) = true
    rw [sg_strOk, data_lay h.1, data_lay h.2]
    rfl
theorem data_depth : ∀ t : Tr, t.data.depth = t.depth
  | .leaf _ => rfl
  | .node s a b => by
    show max 0 (max a.data.depth (max b.data.depth 0)) + 1 = 1 + max a.depth b.depth
    rw [data_depth a, data_depth b]
    omega
theorem data_shaped {t : Tr} (h : TrN t) (hd : t.depth ≤ 2) : SeqAt.shaped t.data = true := by
  show (t.data.canLay0 && decide (t.data.depth ≤ 64)) = true
  rw [data_lay h, data_depth, decide_eq_true (by omega)]
  rfl
theorem data_eqv : ∀ t u : Tr, PyData.eqv t.data u.data = decide (t = u)
  | .leaf z, .leaf y => by
    show (z == y) = _
    by_cases h : z = y
    · subst h
      simp
    · simp [h]
  | .leaf z, .node s a b => rfl
  | .node s a b, .leaf z => rfl
  | .node s a b, .node u c d => by
    show (s.str == u.str && (PyData.eqv a.data c.data && (PyData.eqv b.data d.data && true))) = _
    rw [data_eqv a c, data_eqv b d, Bool.and_true]
    have e1 : (s.str == u.str) = decide (s = u) := by cases s <;> cases u <;> decide +kernel
    rw [e1]
    by_cases h1 : s = u <;> by_cases h2 : a = c <;> by_cases h3 : b = d <;> simp [h1, h2, h3]
theorem tree_dp {K : PySem.W.Frag} {H : Hp} : ∀ {t : Tr} {v : V}, TreeAt H t v → Dp K H v t.data
  | .leaf z, _, h => by
    cases h
    exact .str z
  | .node s a b, _, ⟨p, x, y, e, hp, ha, hb⟩ => by
    cases e
    exact .tup (Evl.st_of hp) (.cons (.str _) (.cons (tree_dp ha) (.cons (tree_dp hb) .nil)))
section
variable {P : Program} {w : World} {K : PySem.W.Frag} {mg : Str → Option Value} {base : Heap} {r : RC} {CB CT CW g : Addr} {k : Nat}
/-- all that the law's defs need of those ahead -/
structure LwK (P : Program) (w : World) (K : PySem.W.Frag) (mg : Str → Option Value) (base : Heap) (r : RC) (CB CT CW g : Addr) (k : Nat) : Prop where
  X : Tx mg
  T : RgK K r
  G : RgG mg r
  B : RgB K mg g
  EQ : EqAt P w K mg base r k 2
  ST : StrAt P w K mg base r k 2
  OV : OverAt P w K mg base r CW k
  MK : Mks P w K mg base r CB k k
  KL : ∃ f fd, Mk K r.L f ∧ FnOk P w K mg base (L2.CX P w) k f fd ["self", "name"] (spMkL r CB) ∧ KBn K fd ["self", "name"] 1 ["name"] (fun us ws => us ++ ws) (fun vs zs => vs ++ zs)
  KM : ∀ s, ∃ f fd, Mk K (r.of s) f ∧ FnOk P w K mg base (L2.CX P w) k f fd ["self", "one", "other"] (spMkM r CB s) ∧ KBn K fd ["self", "one", "other"] 1 ["one", "other"] (fun us ws => us ++ ws) (fun vs zs => vs ++ zs) ∧ KBn K fd ["self", "one", "other"] 1 ["other", "one"] (fun us ws => us ++ ws.reverse) (fun vs zs => vs ++ zs.reverse)
  M : ∃ f fd, Df P w K mg base k "_law_made" ["_law_tree_here"] (spMadeT r 2) f fd
  TR : ∃ f fd, Df P w K mg base k "_law_tree" ["_law_pen_here", "_law_names_here", "_law_most"] (spTree 2) f fd
  PT : ∃ f fd, Df P w K mg base k "_law_parts_right" ["_law_tree_here", "_law_region"] (spParts r) f fd
  LA : ∃ f fd, Df P w K mg base k "_law_lands" ["_law_tree_here"] (spLandsT 2) f fd
  DE : ∃ f fd, Df P w K mg base k "_law_depth" ["_law_tree_here"] (spDepth 2) f fd
  SA : ∃ f fd, Df P w K mg base k "_law_said" ["_law_tree_here"] (spSaid 2) f fd
  CE : ∃ f fd, Df P w K mg base k "_law_cells_right" ["_law_pen_here", "_law_tree_here", "_law_region", "_law_names_here"] (spCells r) f fd
  PK : ∃ f fd, Df P w K mg base k "_law_pick" ["_law_pen_here", "_law_some"] spPick f fd
  BE : ∃ f fd, Df P w K mg base k "_law_bent" ["_law_pen_here", "_law_items", "_law_odd"] spBent f fd
  SP : ∃ f fd, Df P w K mg base k "_law_stop" ["_law_items"] (spStop K) f fd
  RD : ∃ mc p f fd, ClX.CRead K g mc ∧ SMet K g mc "read" p f ∧ FnOk P w K mg base (L2.CX P w) k f fd ["text"] (spRead r CT) ∧ Binds K fd ["text"] []
/-- Land(name = z) -/
theorem rd_mkLK {E : XK} {tk : TA} {σ : L2.St} {H : Hp} {v : V} {Q : VK} (ha : Evl.EvA tk σ H [v]) (q : MkL r CB v H Q E) (hz : ∀ z, v = .str z → z.length ≤ 1000) : tMakeK r.L 0 1 (spMkL r CB) (fun vs zs => vs ++ zs) E tNil tk σ H Q :=
  ha H (Evl.Ex.refl H) _ fun H1 e1 => ⟨rfl, rfl, fun x dx nx ndx ne => by
    have eN : Evl.Ex H1 (upd (upd H1 dx (.own x)) x (.ins r.L dx [])) := fun b o hb => by
      rw [upd_ne (ne_of_none hb nx), upd_ne (ne_of_none hb ndx)]
      exact hb
    rcases q with ⟨z, rfl, hn, q⟩ | ⟨hn, ⟨U, kd⟩, q⟩
    · refine ⟨x, dx, .str z, "str", rfl, upd_same, .str (hz z rfl), .inl ⟨z, rfl, hn, fun H' kp hR => ⟨rfl, q (.ref x) H' (fun b o hb => ?_) hR⟩⟩⟩
      have hb1 := e1 _ _ hb
      exact kp b o (ne_of_none hb1 nx) (eN _ _ hb1)
    · exact ⟨x, dx, v, U, rfl, upd_same, (kd.mono e1).mono eN, .inr ⟨hn, q.ex (e1.trans eN)⟩⟩⟩
theorem mkM_go {s : Sg} {E : XK} {H : Hp} {x y : V} {o o2 : Option Tr} {Q : VK} (hx : RVal r H x o) (hy : RVal r H y o2) (dx : ∀ t, o = some t → t.depth ≤ 2) (dy : ∀ t, o2 = some t → t.depth ≤ 2) (q : MkM r CB s o o2 H Q E) {p d : Addr} (np : H p = none) (nd : H d = none) (ne : d ≠ p) :
    spMkM r CB s [.ref p, x, y] (upd (upd H d (.own p)) p (.ins (r.of s) d [])) (fun v H3 => v = .non ∧ Q (.ref p) H3) E := by
  have e : Evl.Ex H (upd (upd H d (.own p)) p (.ins (r.of s) d [])) := fun b o hb => by
    rw [upd_ne (ne_of_none hb np), upd_ne (ne_of_none hb nd)]
    exact hb
  refine ⟨p, d, x, y, o, o2, rfl, upd_same, hx.mono e, hy.mono e, dx, dy, ?_⟩
  rcases q with ⟨h1, q⟩ | ⟨h1, h2, q⟩ | ⟨a, b, h1, h2, ⟨h3, q⟩ | ⟨h3, q⟩⟩
  · exact .inl ⟨h1, q.ex e⟩
  · exact .inr (.inl ⟨h1, h2, q.ex e⟩)
  · exact .inr (.inr ⟨a, b, h1, h2, .inl ⟨h3, q.ex e⟩⟩)
  · refine .inr (.inr ⟨a, b, h1, h2, .inr ⟨h3, fun H' kp hR => ⟨rfl, q (.ref p) H' (fun c u hc => ?_) hR⟩⟩⟩)
    exact kp c u (ne_of_none hc np) (e _ _ hc)
theorem MkM.ex {s : Sg} {E : XK} {H H1 : Hp} {o o2 : Option Tr} {Q : VK} (q : MkM r CB s o o2 H Q E) (e : Evl.Ex H H1) : MkM r CB s o o2 H1 Q E := by
  rcases q with ⟨h1, q⟩ | ⟨h1, h2, q⟩ | ⟨a, b, h1, h2, ⟨h3, q⟩ | ⟨h3, q⟩⟩
  · exact .inl ⟨h1, q.ex e⟩
  · exact .inr (.inl ⟨h1, h2, q.ex e⟩)
  · exact .inr (.inr ⟨a, b, h1, h2, .inl ⟨h3, q.ex e⟩⟩)
  · exact .inr (.inr ⟨a, b, h1, h2, .inr ⟨h3, fun p H' e' hR => q p H' (e.trans e') hR⟩⟩)
/-- Sum(one = x, other = y) -/
theorem rd_mkMK {s : Sg} {E : XK} {tk : TA} {σ : L2.St} {H : Hp} {x y : V} {o o2 : Option Tr} {Q : VK} (ha : Evl.EvA tk σ H [x, y]) (hx : RVal r H x o) (hy : RVal r H y o2) (dx : ∀ t, o = some t → t.depth ≤ 2) (dy : ∀ t, o2 = some t → t.depth ≤ 2) (q : MkM r CB s o o2 H Q E) :
    tMakeK (r.of s) 0 2 (spMkM r CB s) (fun vs zs => vs ++ zs) E tNil tk σ H Q :=
  ha H (Evl.Ex.refl H) _ fun H1 e1 => ⟨rfl, rfl, fun p d np nd ne => mkM_go (hx.mono e1) (hy.mono e1) dx dy (q.ex e1) np nd ne⟩
/-- Common(other = y, one = x) -/
theorem rd_mkMR {s : Sg} {E : XK} {tk : TA} {σ : L2.St} {H : Hp} {x y : V} {o o2 : Option Tr} {Q : VK} (ha : Evl.EvA tk σ H [y, x]) (hx : RVal r H x o) (hy : RVal r H y o2) (dx : ∀ t, o = some t → t.depth ≤ 2) (dy : ∀ t, o2 = some t → t.depth ≤ 2) (q : MkM r CB s o o2 H Q E) :
    tMakeK (r.of s) 0 2 (spMkM r CB s) (fun vs zs => vs ++ zs.reverse) E tNil tk σ H Q :=
  ha H (Evl.Ex.refl H) _ fun H1 e1 => ⟨rfl, rfl, fun p d np nd ne => mkM_go (hx.mono e1) (hy.mono e1) dx dy (q.ex e1) np nd ne⟩
end
end K04
namespace K04
open PySem PySem.Spec PyProof.Rows L2 BW LamX
theorem items_ne : ∀ t : Tr, t.items ≠ []
  | .leaf z => List.cons_ne_nil _ _
  | .node _ _ _ => List.cons_ne_nil _ _
theorem txt_join (xs : List Str) : Txt.join blank xs = Str.join blank xs := by
  show Builtin.Str.glued blank xs = _
  rw [StrLaws.glued_eq_join]
theorem join_cons (x : Str) {ys : List Str} (h : ys ≠ []) : Str.join blank (x :: ys) = x ++ blank ++ Str.join blank ys := by
  cases ys with
  | nil => exact absurd rfl h
  | cons y ys => rfl
theorem join_app : ∀ {xs ys : List Str}, xs ≠ [] → ys ≠ [] → Str.join blank (xs ++ ys) = Str.join blank xs ++ blank ++ Str.join blank ys
  | [], _, h, _ => absurd rfl h
  | _ :: _, [], _, h => absurd rfl h
  | [x], y :: ys, _, _ => join_cons x (List.cons_ne_nil y ys)
  | x :: x' :: xs, y :: ys, _, _ => by
    have ih := join_app (xs := x' :: xs) (ys := y :: ys) (List.cons_ne_nil _ _) (List.cons_ne_nil _ _)
    show Str.join blank (x :: (x' :: xs ++ (y :: ys))) = _
    rw [join_cons x (by simp), ih, join_cons x (List.cons_ne_nil x' xs)]
    simp only [str_assoc]
theorem said_join' : ∀ t : Tr, t.said = Str.join blank t.items
  | .leaf z => rfl
  | .node s a b => by
    show s.str ++ blank ++ a.said ++ blank ++ b.said = Str.join blank (s.str :: (a.items ++ b.items))
    rw [join_cons _ (fun h => items_ne a (List.append_eq_nil_iff.mp h).1), join_app (items_ne a) (items_ne b), said_join' a, said_join' b]
    simp only [str_assoc]
theorem said_join (t : Tr) : t.said = Txt.join blank t.items := by rw [said_join', txt_join]
theorem prs_items : ∀ {t : Tr}, TrN t → ∀ {m : Nat}, t.depth ≤ m → ∀ (pre post : List Str), prs (pre ++ t.items ++ post) m pre.length = .inr (t, pre.length + t.items.length)
  | .leaf z, h, m, hd, pre, post => by
    have hz : (pre ++ [z] ++ post)[pre.length]? = some z := by
      rw [List.append_assoc, List.getElem?_append_right (Nat.le_refl _), Nat.sub_self]
      rfl
    have hs : sgOf z = none := by
      cases e : sgOf z with
      | none => rfl
      | some s =>
        have := sg_noname e
        rw [show nameB z = true from h] at this
        cases this
    show prs (pre ++ [z] ++ post) m pre.length = _
    rw [prs_nm hz (by rw [hs]; rfl), show nameB z = true from h, if_pos rfl]
    rfl
  | .node s a b, h, m, hd, pre, post => by
    have hd' : 1 + max a.depth b.depth ≤ m := hd
    obtain ⟨c, rfl⟩ : ∃ c, m = c + 1 := ⟨m - 1, by omega⟩
    have e1 : pre ++ (Tr.node s a b).items ++ post = (pre ++ [s.str]) ++ a.items ++ (b.items ++ post) := by
      show pre ++ (s.str :: (a.items ++ b.items)) ++ post = _
      simp
    have e2 : pre ++ (Tr.node s a b).items ++ post = (pre ++ [s.str] ++ a.items) ++ b.items ++ post := by
      show pre ++ (s.str :: (a.items ++ b.items)) ++ post = _
      simp
    have hz : (pre ++ (Tr.node s a b).items ++ post)[pre.length]? = some s.str := by
      rw [List.append_assoc, List.getElem?_append_right (Nat.le_refl _), Nat.sub_self]
      rfl
    have h1 := prs_items h.1 (m := c) (by omega) (pre ++ [s.str]) (b.items ++ post)
    have h2 := prs_items h.2 (m := c) (by omega) (pre ++ [s.str] ++ a.items) post
    rw [← e1] at h1
    rw [← e2] at h2
    have l1 : (pre ++ [s.str]).length = pre.length + 1 := by simp
    have l2 : (pre ++ [s.str] ++ a.items).length = pre.length + 1 + a.items.length := by
      rw [List.length_append, l1]
    rw [l1] at h1
    rw [l2] at h2
    rw [prs_sg hz (sgOf_sg s), h1]
    dsimp only
    rw [h2]
    dsimp only
    congr 2
    show _ = pre.length + (s.str :: (a.items ++ b.items)).length
    rw [List.length_cons, List.length_append]
    omega
theorem prs_said {t : Tr} (h : TrN t) (hd : t.depth ≤ 2) : prs t.items 2 0 = .inr (t, t.items.length) ∧ stp t.items = none := by
  have h1 := prs_items h hd [] []
  rw [List.nil_append, List.append_nil] at h1
  have h2 : prs t.items 2 0 = .inr (t, t.items.length) := by
    rw [show (0 : Nat) = ([] : List Str).length from rfl, h1]
    rw [List.length_nil, Nat.zero_add]
  refine ⟨h2, ?_⟩
  unfold stp
  rw [h2]
  dsimp only
  rw [if_neg (Nat.lt_irrefl _)]
theorem name_noblank {z : Str} (h : nameB z = true) : 32 ∉ z.cps.toList := fun hm => by
  rw [name_okL, Bool.and_eq_true] at h
  have h3 := h.2
  unfold okL at h3
  split at h3
  · cases h3
  · rename_i c0 r0 he
    rw [Bool.and_eq_true] at h3
    rw [he] at hm
    have := List.all_eq_true.mp h3.2 32 hm
    revert this
    decide +kernel
theorem items_noblank : ∀ {t : Tr}, TrN t → ∀ x ∈ t.items, 32 ∉ x.cps.toList
  | .leaf z, h, x, hx => by
    rw [List.mem_singleton.mp hx]
    exact name_noblank h
  | .node s a b, h, x, hx => by
    rcases List.mem_cons.mp hx with rfl | hx
    · cases s <;> decide +kernel
    · rcases List.mem_append.mp hx with hx | hx
      · exact items_noblank h.1 x hx
      · exact items_noblank h.2 x hx
theorem split_said {t : Tr} (h : TrN t) : Txt.split t.said blank = t.items := by
  rw [said_join]
  exact split_join (items_ne t) (items_noblank h)
theorem items_ok : ∀ {t : Tr}, TrN t → ∀ x ∈ t.items, x.length ≤ 12 ∧ PySem.PyData.strOk x = true
  | .leaf z, h, x, hx => by
    rw [List.mem_singleton.mp hx]
    exact ⟨name_len h, name_strOk h⟩
  | .node s a b, h, x, hx => by
    rcases List.mem_cons.mp hx with rfl | hx
    · exact ⟨by cases s <;> decide +kernel, sg_strOk s⟩
    · rcases List.mem_append.mp hx with hx | hx
      · exact items_ok h.1 x hx
      · exact items_ok h.2 x hx
theorem items_few : ∀ t : Tr, t.items.length + 1 ≤ 2 * 2 ^ t.depth
  | .leaf _ => Nat.le_refl _
  | .node s a b => by
    have h1 := items_few a
    have h2 := items_few b
    have m1 : 2 ^ a.depth ≤ 2 ^ max a.depth b.depth := Nat.pow_le_pow_right (by omega) (Nat.le_max_left ..)
    have m2 : 2 ^ b.depth ≤ 2 ^ max a.depth b.depth := Nat.pow_le_pow_right (by omega) (Nat.le_max_right ..)
    show (s.str :: (a.items ++ b.items)).length + 1 ≤ 2 * 2 ^ (1 + max a.depth b.depth)
    rw [List.length_cons, List.length_append, Nat.pow_add, Nat.pow_one]
    omega
section
variable {r : RC} {H : Hp} {p : Addr}
/-- a region stands beside the pen -/
theorem reg_hide {xs : List V} (hp : H p = some (.lst xs)) : ∀ {t : Tr} {v : V}, RegAt r H t v → RegAt r (hide p H) t v := by
  have ne : ∀ {b : Addr} {o : HO}, H b = some o → (∀ ys, o ≠ .lst ys) → b ≠ p := fun {b o} hb hn e => by
    rw [e, hp] at hb
    exact hn _ (Option.some.inj hb).symm
  intro t
  induction t with
  | leaf z =>
    rintro v ⟨q, dq, l, h1, h2, h3⟩
    exact ⟨q, dq, l, h1, hide_at (ne h2 fun _ z => nomatch z) h2, hide_at (ne h3 fun _ z => nomatch z) h3⟩
  | node s a b iha ihb =>
    rintro v ⟨q, dq, x, y, l, ys, h1, h2, h3, h4, h5, h6⟩
    exact ⟨q, dq, x, y, l, ys, h1, hide_at (ne h2 fun _ z => nomatch z) h2, iha h3, ihb h4, hide_at (ne h5 fun _ z => nomatch z) h5, h6⟩
theorem PenL.hid {L : Addr} {n : Nat} (h : PenL H p L n) : ∃ xs, H p = some (.lst xs) := by
  obtain ⟨ns, k, r, h1, _⟩ := h
  exact ⟨_, h1⟩
end
theorem at_last {α : Type} {xs : List α} (h : xs ≠ []) : atI xs (-1) = some (xs.getLast h) := by
  have hl : 0 < xs.length := List.length_pos_iff.mpr h
  have e : ixN xs.length (-1) = some (xs.length - 1) := by
    unfold ixN
    rw [if_neg (by decide)]
    first
      | rw [if_pos (by omega)]; congr 1; omega
      | (split <;> (first | omega | (congr 1; omega)))
  unfold atI
  rw [e, Option.bind_some, List.getLast_eq_getElem]
  exact List.getElem?_eq_getElem _
theorem shape_tup {ss : List Str} (h : ∀ z ∈ ss, PySem.PyData.strOk z = true) : SeqAt.shaped (.tuple (ss.map PyData.str)) = true := by
  show (PyData.canLayAll0 (ss.map PyData.str) && decide (PyData.depthAll (ss.map PyData.str) + 1 ≤ 64)) = true
  rw [lay_strs h, deep_strs]
  rfl
end K04
namespace K04
open PySem PySem.Spec PyProof.Rows L2 BW LamX
abbrev sRegion : Stmt := topS 44
section
variable {P : Program} {w : World} {K : PySem.W.Frag} {mg : Str → Option Value} {base : Heap} {r : RC} {CB CT CW g : Addr} {k : Nat}
def spRegion : Sp := fun vs H Q _ => ∃ (p L a : Addr) (n m : Nat) (v : V) (t : Tr) (ns : List Str), vs = [.ref p, v, .ref a] ∧ PenL H p L n ∧ n + 34 ≤ 100000 ∧ 1 ≤ m ∧ m ≤ 5 ∧ TreeAt (hide p H) t v ∧ TrN t ∧ t.depth ≤ 2 ∧ a ≠ p ∧ H a = some (.lst (ns.map V.str)) ∧ Nms ns m ∧
  ∀ H', Kp p H H' → PenL H' p L (n + 34) → Q (.bl true) H'
theorem mon_own {d : Nat} : L2.Mon (DOwn K (REq r d) E0) := fun x y H H' e h => by
  obtain ⟨a, b, C, C', dx, dy, fs, gs, sp, rfl, rfl, ha, hb, hn, ⟨hC, rfl⟩, u, v, t, o, ev, hu, hCt, hd, hv, q⟩ := h
  refine ⟨a, b, C, C', dx, dy, fs, gs, _, rfl, rfl, e _ _ ha, e _ _ hb, hn, ⟨hC, rfl⟩, u, v, t, o, ev, hu.mono e, hCt, hd, hv.mono e, fun H2 e2 => ⟨(q H (Evl.Ex.refl H)).1, e2⟩⟩
theorem own_of (T : RgK K r) {H : Hp} {x y : V} {t : Tr} (hx : RegAt r H t x) (hy : RegAt r H t y) (hd : t.depth ≤ 2) : DOwn K (REq r 2) E0 x y H := by
  obtain ⟨p, dx, fs, rfl, S⟩ := hx.see
  obtain ⟨p', dy, gs, rfl, S'⟩ := hy.see
  exact ⟨p, p', _, _, dx, dy, fs, gs, _, rfl, rfl, S.at_, S'.at_, T.nf _ _ (isRg_at r t) (isRg_at r t), ⟨isRg_at r t, rfl⟩, .ref p, .ref p', t, some t, rfl, hx, rfl, hd, .reg hy, fun H2 e2 => ⟨congrArg V.bl (decide_eq_true rfl), e2⟩⟩
theorem par_open {σ : L2.St} {H : Hp} {D : Ends} {ta tb : TE} {tz : TS} {i j : Nat} (h : ta σ H (fun x H1 => tb σ H1 fun y H2 => ∃ v w, [x, y] = [v, w] ∧ tz D ((σ.set i (some v)).set j (some w)) H2)) : tSeq (tPar i j (tCons ta (tCons tb tNil))) tz D σ H := h
theorem lst3_open {σ : L2.St} {H : Hp} {D : Ends} {ta tb tc : TE} {tz : TS} {i : Nat} (h : ta σ H (fun x H1 => tb σ H1 fun y H2 => tc σ H2 fun z H3 => [x, y, z].length ≤ sizeLine ∧ ∀ l, H3 l = none → tz D (σ.set i (some (.ref l))) (upd H3 l (.lst [x, y, z])))) : tSeq (tAsg (tLst (tCons ta (tCons tb (tCons tc tNil)))) (gName i)) tz D σ H := h
theorem ne3_open {σ : L2.St} {H : Hp} {D : Ends} {ta tb tc : TE} {tz tu : TS} {rr : R2} {i : Nat} {u : V} (hu : σ[i]? = some (some u)) (h : ta σ H (fun x H1 => tb σ H1 fun y H2 => tc σ H2 fun z H3 => [x, y, z].length ≤ sizeLine ∧ ∀ l, H3 l = none → rr u (.ref l) (upd H3 l (.lst [x, y, z])) (fun v H4 => ∃ b, v = .bl b ∧ if b = true then tu { D with nx := tz D } σ H4 else tz D σ H4))) :
    tSeq (tIfS (tTest (tOp rr (tVar i) (tLst (tCons ta (tCons tb (tCons tc tNil)))))) tu tNext) tz D σ H := ⟨u, hu, h⟩
theorem qnot_open {σ : L2.St} {H : Hp} {D : Ends} {te : TE} {tu tz : TS} (h : te σ H (fun v H1 => ∃ c, v = .bl c ∧ if (!c) = true then tu { D with nx := tz D } σ H1 else tz D σ H1)) : tSeq (tIfS (tNot (tB te)) tu tNext) tz D σ H := h
theorem eu_lands {σ : L2.St} {H : Hp} {v : V} {t : Tr} {ys : List Str} {i : Nat} (hσ : σ[i]? = some (some v)) (ht : TreeAt H t v) (hN : TrN t) (hd : t.depth ≤ 2) (hL : Lands t ys) : Evl.EvU (tCB (fun xs H Q => ∃ p ys, xs = [V.ref p] ∧ ((SqL K H p ys ∧ ∀ l, H l = none → Q (.ref l) (upd H l (.tup ys))) ∨ (SqT K H p ys ∧ Q (.ref p) H))) (tCons (tCall (spLandsT 2) [] E0 (tCons (tVar i) tNil)) tNil)) σ H (ys.map V.str) := fun H1 e Q q =>
  ⟨v, hσ, v, t, rfl, ht.mono e, hN, hd, Nat.le_refl _, fun p zs H2 e2 hp hz => by
    obtain rfl := lands_eq hL hz
    exact ⟨p, _, rfl, .inl ⟨Evl.sq_of hp, fun l nl => q l _ (Evl.fresh_back e2 nl) (e2.trans (Evl.Ex.new nl)) upd_same⟩⟩⟩
theorem lands_strOk {t : Tr} {ys : List Str} (hL : Lands t ys) (hN : TrN t) : ∀ z ∈ ys, PySem.PyData.strOk z = true := fun z hz => name_strOk (Tr.all_mem hN z ((hL.mem z).1 hz))
theorem ev_said {σ : L2.St} {H : Hp} {v : V} {t : Tr} {i : Nat} (hσ : σ[i]? = some (some v)) (ht : TreeAt H t v) (hN : TrN t) (hd : t.depth ≤ 2) : Evl.Ev (tCall (spSaid 2) [] E0 (tCons (tVar i) tNil)) σ H (.str t.said) :=
  Evl.ev_call (Evl.ea_cons (Evl.ev_var hσ) Evl.ea_nil) fun H1 e Q q _ => ⟨v, t, rfl, ht.mono e, hN, hd, Nat.le_refl _, q⟩
theorem short_of {t : Tr} (h : TrN t) : t.All short12 := h.imp fun z hz => name_len hz
theorem ev_strO {ta : TE} {σ : L2.St} {H : Hp} {x : V} {t : Tr} (ha : Evl.Ev ta σ H x) (hR : RegAt r H t x) (hd2 : t.depth ≤ 2) (h12 : t.All short12) : Evl.Ev (tCB (fun xs H Q => ∃ x, xs = [x] ∧ rStrO (RStr r 2) E0 x H Q) (tCons ta tNil)) σ H (.str t.said) := fun H1 e Q q =>
  ha H1 e _ fun H2 e2 => by
    obtain ⟨p, dx, fs, rfl, S⟩ := (hR.mono (e.trans e2)).see
    exact ⟨_, rfl, p, _, dx, fs, _, rfl, S.at_, ⟨isRg_at r t, rfl⟩, .ref p, t, rfl, hR.mono (e.trans e2), rfl, hd2, hd2, h12, fun H3 e3 => ⟨t.said, rfl, q H3 (e2.trans e3)⟩⟩
theorem scRegion : FnScope ["_law_pen_here", "_law_tree_here", "_law_names_here", "_law_region", "_law_other", "_law_first", "_law_second", "_law_made_here", "_law_back"] ["_law_pen_here", "_law_tree_here", "_law_names_here"] (defScope sRegion) := ⟨rfl, rfl, rfl, by decide +kernel, rfl, by decide +kernel, by decide +kernel⟩
theorem ok_region {f : Addr} {fd : FuncData} (W : LwK P w K mg base r CB CT CW g k) (F : Fun K "_law_region_right" "_law_region_right" sRegion f fd) : FnOk P w K mg base CX0 (k + 3) f fd ["_law_pen_here", "_law_tree_here", "_law_names_here"] spRegion := by
  refine F.ok scRegion (fun vs H Q E h => ?_) (fun cdv A outer s H vs Q E hr h => ?_)
  · obtain ⟨p, L, a, n, m, v, t, ns, rfl, _⟩ := h
    rfl
  · obtain ⟨p, L, a, n, m, v, t, ns, rfl, hP, hn, hm1, hm, ht, hN, hd, na, ha, hns, q⟩ := h
    have nd := scRegion.nd
    have hr1 : Room (k + 1) (A.deeper (envOfC (Str.ofString "_law_region_right") (defScope sRegion) s.heap.objs.size f cdv)) := hr.mono (by omega)
    have hr0 : Room k (A.deeper (envOfC (Str.ofString "_law_region_right") (defScope sRegion) s.heap.objs.size f cdv)) := hr.mono (by omega)
    obtain ⟨X, T, G, B, EQ, ST, OV, MK, ⟨fL, dL, mL, oL, kL⟩, KM, ⟨fM, dM, M⟩, ⟨fT, dT, TR⟩, ⟨fP, dP, PT⟩, ⟨fA, dA, LA⟩, ⟨fE, dE, DE⟩, ⟨fS, dS, SA⟩, ⟨fC, dC, CE⟩, _, _, _, ⟨mc, sp, fR, dR, rR, sR, oR, bR⟩⟩ := W
    obtain ⟨fL', dL', mL', oL', bL'⟩ := MK.L
    obtain ⟨f1, d1, m1, o1, k1, _⟩ := KM .plus
    obtain ⟨f2, d2, m2, o2, _, k2⟩ := KM .star
    obtain ⟨f3, d3, m3, o3, _, k3⟩ := KM .minus
    obtain ⟨g1, e1, n1, p1, b1⟩ := MK.M .plus
    obtain ⟨g2, e2, n2, p2, b2⟩ := MK.M .star
    obtain ⟨g3, e3, n3, p3, b3⟩ := MK.M .minus
    refine ⟨_, pss_cons (ps_par (i := 3) (j := 4) (by rfl) nd rfl rfl (by decide) rfl rfl (pa_cons (pe_df M hr0 (pa_cons (pv 1) pa_nil)) (pa_cons (pe_df TR hr0 (pa_cons (pv 0) (pa_cons (pv 2) (pa_cons pe_int pa_nil)))) pa_nil)) (by rfl))
      (pss_cons (ps_if (PW.pt (pw_or (pt_not (pt_val (pe_df PT hr0 (pa_cons (pv 1) (pa_cons (pv 3) pa_nil))))) (pw_or (pt_cmpR (op_neD hr.units) (pe_fld (pv 3) rfl) (pe_callTy call_tuple_of (by rfl) X.tuple (by decide +kernel) (pa_cons (pe_df LA hr0 (pa_cons (pv 1) pa_nil)) pa_nil)) (nomark _)) (pw_or1 (pt_not (pt_val (pe_callB call_isi (by rfl) X.isi (by decide +kernel) (pa_cons (pe_fld (pv 3) rfl) (pa_cons (pe_bltn (v := .ty "tuple") (by rfl) X.tuple (by decide +kernel) rfl) pa_nil))))))))) (pss_one (ps_ret pe_bl)) pss_nil)
      (pss_cons (ps_if (PW.pt (pw_or (pt_cmpR op_ne (pe_fld (pv 3) rfl) (pe_df DE hr0 (pa_cons (pv 1) pa_nil)) (nomark _)) (pw_or1 (pt_val (pe_callB call_isi (by rfl) X.isi (by decide +kernel) (pa_cons (pe_fld (pv 3) rfl) (pa_cons (pe_bltn (v := .ty "bool") (by rfl) X.bool (by decide +kernel) rfl) pa_nil))))))) (pss_one (ps_ret pe_bl)) pss_nil)
      (pss_cons (ps_if (pt_not (pt_val (pe_df CE hr0 (pa_cons (pv 0) (pa_cons (pv 1) (pa_cons (pv 3) (pa_cons (pv 2) pa_nil))))))) (pss_one (ps_ret pe_bl)) pss_nil)
      (pss_cons (ps_if (PW.pt (pw_or (pt_cmpR op_ne (pe_cmpR (op_eqO EQ hr0 pass0) (pv 3) (pe_df M hr0 (pa_cons (pv 4) pa_nil)) (nomark _)) (pe_cmpR (op_eqD hr.units) (pv 1) (pv 4) (nomark _)) (nomark _)) (pw_or (pt_cmpR (op_eqO EQ hr0 pass0) (pv 3) (pe_df SA hr0 (pa_cons (pv 1) pa_nil)) (nomark _)) (pw_or1 (pt_not (pt_cmpR (op_eqO EQ hr0 pass0) (pv 3) (pe_df M hr0 (pa_cons (pv 1) pa_nil)) (nomark _))))))) (pss_one (ps_ret pe_bl)) pss_nil)
      (pss_cons (ps_par (i := 5) (j := 6) (by rfl) nd rfl rfl (by decide) rfl rfl (pa_cons (pe_makeK0 mL oL hr1 (by rfl) G.gL kL passL (pk_cons (pe_ix ix_list (pv 2) pe_int (fun _ _ => rfl)) pk_nil)) (pa_cons (pe_make mL' oL' hr1 (by rfl) G.gL bL' .nil passL (pa_cons (pe_ix ix_list (pv 2) (pe_un un_neg pe_int) (fun _ _ => rfl)) pa_nil)) pa_nil)) (by rfl))
      (pss_cons (ps_set (i := 7) nd rfl (.inl rfl) (pe_lst (pa_cons (pe_makeK0 m1 o1 hr1 (by rfl) G.gS k1 passL (pk_cons (pv 5) (pk_cons (pv 6) pk_nil))) (pa_cons (pe_makeK0 m2 o2 hr1 (by rfl) G.gC k2 passL (pk_cons (pv 6) (pk_cons (pv 5) pk_nil))) (pa_cons (pe_makeK0 m3 o3 hr1 (by rfl) G.gR k3 passL (pk_cons (pv 6) (pk_cons (pv 5) pk_nil))) pa_nil)))))
      (pss_cons (ps_if (pt_cmpR (op_neL (D := DOwn K (REq r 2) E0) mon_own (eqG_own EQ pass0) hr1) (pv 7) (pe_lst (pa_cons (pe_make n1 p1 hr1 (by rfl) G.gS b1 .nil passL (pa_cons (pv 5) (pa_cons (pv 6) pa_nil))) (pa_cons (pe_make n2 p2 hr1 (by rfl) G.gC b2 .nil passL (pa_cons (pv 5) (pa_cons (pv 6) pa_nil))) (pa_cons (pe_make n3 p3 hr1 (by rfl) G.gR b3 .nil passL (pa_cons (pv 5) (pa_cons (pv 6) pa_nil))) pa_nil)))) (nomark _)) (pss_one (ps_ret pe_bl)) pss_nil)
      (pss_cons (ps_set (i := 8) nd rfl (.inl rfl) (pe_smeth (pe_glob (v := .ref g) (by rfl) B.nm rfl) rR sR oR bR hr0 passL (pa_cons (pe_df SA hr0 (pa_cons (pv 1) pa_nil)) pa_nil)))
      (pss_one (ps_ret (pe_and (pe_cmpR op_eq (pe_callTy (call_strO (fun C sp h => (ST C sp h).1) hr pass0) (by rfl) X.str (by decide +kernel) (pa_cons (pv 3) pa_nil)) (pe_df SA hr0 (pa_cons (pv 1) pa_nil)) (nomark _)) (pe_and (pe_cmpR (op_eqO EQ hr0 pass0) (pv 8) (pv 3) (nomark _)) (pe_one (pe_df PT hr0 (pa_cons (pv 1) (pa_cons (pv 8) pa_nil)))))))))))))))), ?_⟩
    have hns' := hns
    obtain ⟨hnl, hnm, _, _⟩ := hns
    have hne : ns ≠ [] := fun e => by
      rw [e] at hnl
      simp at hnl
      omega
    have tG : ∀ {G : Hp}, Kp p H G → TreeAt G t v := fun k => (ht.mono (hide_kp k)).mono (hide_sub _ _)
    -- the region, the other tree
    refine par_open ⟨v, rfl, v, t, rfl, tG (Kp.refl _ _), hN, hd, Nat.le_refl _, fun x H1 e1 hx => ?_⟩
    have hP1 := hP.same e1
    obtain ⟨pxs, hpx⟩ := K04.PenL.hid hP1
    have hxh := reg_hide hpx hx
    refine ⟨.ref p, rfl, .ref a, rfl, p, L, a, n, ns, rfl, hP1, (by show n + 10 ≤ 100000; omega), na, e1 _ _ ha, hne, by omega, fun u uv H2 k2 p2 du au tu => ⟨_, _, rfl, ?_⟩⟩
    have k12 : Kp p H H2 := (Same.kp e1).trans k2
    have p2' : PenL H2 p L (n + 10) := p2
    have uN : TrN u := au.imp fun z hz => (hnm z hz).1
    have hx2 : RegAt r H2 t x := (hxh.mono (hide_kp k2)).mono (hide_sub _ _)
    have xs2 : ∀ {G : Hp}, Kp p H2 G → RegAt r G t x := fun k => ((hxh.mono (hide_kp k2)).mono (hide_kp k)).mono (hide_sub _ _)
    have us2 : ∀ {G : Hp}, Kp p H2 G → TreeAt G u uv := fun k => (tu.mono (hide_kp k)).mono (hide_sub _ _)
    have ts2 : ∀ {G : Hp}, Kp p H2 G → TreeAt G t v := fun k => tG (k12.trans k)
    have r2 := Kp.refl p H2
    obtain ⟨px, dx, fs, rfl, S⟩ := hx2.see
    obtain ⟨l, ys, lk1, hl, hL⟩ := S.ld
    have isC := isRg_at r t
    have fld : ∀ {σ : L2.St} {G : Hp} {f : Str} {y : V}, σ[3]? = some (some (.ref px)) → Evl.Ex H2 G → f ∈ attrs5 → fs.lookup f = some y → Evl.Ev (tFld K (tVar 3) f) σ G y := fun h1 e h2 h3 => ev_fld (Evl.ev_var h1) (e _ _ S.at_) (T.cl _ isC) (T.na _ isC _ h2) h3
    -- parts, lands
    refine Evl.q_when (b := false) (Evl.et_or (a := false) (Evl.et_is (Evl.et_not (Evl.et_B (b := true) (Evl.ev_call (Evl.ea_cons (Evl.ev_var (v := v) rfl) (Evl.ea_cons (Evl.ev_var (v := .ref px) rfl) Evl.ea_nil)) fun G e Q q _ => ⟨v, .ref px, t, rfl, (ts2 r2).mono e, hN, hd, hx2.mono e, q⟩))) rfl) fun _ =>
      Evl.et_or (a := false) (Evl.et_test (Evl.ev_opU (x := .ref l) (xs := ys.map V.str) (fld rfl (Evl.Ex.refl _) (by decide) lk1) (eu_lands (v := v) rfl (ts2 r2) hN hd hL) fun q' G hq eG => fun G2 e2 Q kq => ?_)) fun _ =>
      Evl.et_is (Evl.et_not (Evl.et_B (ev_isi (fld rfl (Evl.Ex.refl _) (by decide) lk1) (.tup hl) (kd_tuple (.tup hl))))) rfl) (fun z => nomatch z) (fun _ H3 e3 => ?_)
    · have ok := lands_strOk hL hN
      refine ⟨_, _, .tup (Evl.st_of (e2 _ _ (eG _ _ hl))) (dp_strs ys), .tup (Evl.st_of (e2 _ _ hq)) (dp_strs ys), shape_tup ok, shape_tup ok, ?_⟩
      rw [PySem.SeqAt.eqv_refl _ (show PyData.canLay0 (.tuple (ys.map PyData.str)) = true from lay_strs ok)]
      exact kq G2 (Evl.Ex.refl G2)
    -- depth
    have k23 : Kp p H2 H3 := Same.kp e3
    refine Evl.q_when (b := false) (Evl.et_or (a := false) (Evl.et_test (Evl.ev_is (Evl.ev_op (y := .int (t.depth : Nat)) (fld rfl e3 (by decide) S.dp) (Evl.ev_call (Evl.ea_cons (Evl.ev_var (v := v) rfl) Evl.ea_nil) fun G e Q q _ => ⟨v, t, rfl, (ts2 k23).mono e, hN, hd, q⟩) (Evl.rv_ne rfl)) (by simp))) fun _ =>
      Evl.et_B (ev_isi (fld rfl e3 (by decide) S.dp) (.int (t.depth : Nat)) (kd_bool (H := H3) (.int (t.depth : Nat))))) (fun z => nomatch z) (fun _ H4 e4 => ?_)
    have e24 := e3.trans e4
    have k24 : Kp p H2 H4 := Same.kp e24
    have k14 : Kp p H H4 := k12.trans k24
    -- cells
    refine qnot_open ?_
    refine ⟨.ref p, rfl, v, rfl, .ref px, rfl, .ref a, rfl, p, L, a, n + 10, m, v, .ref px, t, ns, rfl, p2'.same e24, by omega, hm, ht.mono (hide_kp k14), hN, hd, (hxh.mono (hide_kp k2)).mono (hide_kp k24), na, k14 _ _ na ha, hns', fun H5 k45 p5 => ⟨true, rfl, ?_⟩⟩
    have k25 : Kp p H2 H5 := k24.trans k45
    have k15 : Kp p H H5 := k12.trans k25
    have pfin : n + 10 + 24 = n + 34 := by omega
    rw [pfin] at p5
    -- equal or not
    rw [if_neg (by decide)]
    refine Evl.q_when (b := false) (Evl.et_or (a := false) (Evl.et_test (Evl.ev_is (Evl.ev_op (x := .bl (decide (t = u))) (y := .bl (decide (t = u))) (ev_eqMade T (Evl.ev_var rfl) (xs2 k25) hd (Evl.ev_var (v := uv) rfl) (us2 k25) uN du) (Evl.ev_op (x := v) (y := uv) (Evl.ev_var rfl) (Evl.ev_var rfl) (fun G e Q kq => ?_)) (Evl.rv_ne rfl)) (by simp))) fun _ =>
      Evl.et_or (a := false) (Evl.et_test (T.ev_eqS (Evl.ev_var rfl) (ev_said (v := v) rfl (ts2 k25) hN hd) (xs2 k25) (by have := said_few hN hd; omega) hd)) fun _ =>
      Evl.et_is (Evl.et_not (Evl.et_test (ev_eqMade T (Evl.ev_var rfl) (xs2 k25) hd (Evl.ev_var (v := v) rfl) (ts2 k25) hN hd))) (by simp)) (fun z => nomatch z) (fun _ H6 e6 => ?_)
    · refine ⟨t.data, u.data, tree_dp ((ts2 k25).mono e), tree_dp ((us2 k25).mono e), data_shaped hN hd, data_shaped uN du, ?_⟩
      rw [data_eqv]
      exact kq G (Evl.Ex.refl G)
    have k26 : Kp p H2 H6 := k25.trans (Same.kp e6)
    have k16 : Kp p H H6 := k12.trans k26
    have p6 := p5.same e6
    -- two lands
    have ha6 := k16 _ _ na ha
    obtain ⟨z0, zs0, rfl⟩ : ∃ z0 zs0, ns = z0 :: zs0 := by
      cases ns with
      | nil => exact absurd rfl hne
      | cons z0 zs0 => exact ⟨z0, zs0, rfl⟩
    have hz0 := (hnm z0 List.mem_cons_self).1
    have hzl := (hnm _ (List.getLast_mem hne)).1
    have len_of : ∀ {y : Str}, nameB y = true → y.length ≤ 1000 := fun h => Nat.le_trans (name_len h) (by decide)
    refine par_open ?_
    refine rd_mkLK (v := .str z0) (Evl.ea_cons (Evl.ev_op (Evl.ev_var rfl) Evl.ev_c (Evl.rv_ixL (Evl.sq_of ha6) (atI_nat (j := 0) rfl))) Evl.ea_nil) (.inl ⟨z0, rfl, hz0, fun x1 H7 e7 hr1 => ?_⟩) (fun z h => by cases h; exact len_of hz0)
    have lastAt : atI ((z0 :: zs0).map V.str) (-1) = some (.str ((z0 :: zs0).getLast hne)) := by
      rw [at_last (by simp), List.getLast_map]
    refine rd_mkL (v := .str ((z0 :: zs0).getLast hne)) (Evl.ea_cons (Evl.ev_op (Evl.ev_var rfl) (Evl.ev_un Evl.ev_c Evl.ru_neg) (Evl.rv_ixL (Evl.sq_of (e7 _ _ ha6)) lastAt)) Evl.ea_nil) (.inl ⟨_, rfl, hzl, fun x2 H8 e8 hr2 => ⟨_, _, rfl, ?_⟩⟩) (fun z h => by cases h; exact len_of hzl)
    generalize (z0 :: zs0).getLast hne = zl at hzl hr2 
    have r1 := hr1.mono e8
    -- three regions
    have some_le : ∀ {z : Str} {t : Tr}, some (Tr.leaf z) = some t → t.depth ≤ 2 := fun h => by
      rw [← Option.some.inj h]
      exact Nat.zero_le _
    have mk : ∀ {sg : Sg} {G : Hp} {Q' : VK}, (∀ q G', Evl.Ex G G' → RegAt r G' (.node sg (.leaf z0) (.leaf zl)) q → Q' q G') → MkM r CB sg (some (.leaf z0)) (some (.leaf zl)) G Q' E0 := fun h => .inr (.inr ⟨_, _, rfl, rfl, .inr ⟨(by show 1 + max 0 0 ≤ 2; decide), h⟩⟩)
    refine lst3_open ?_
    refine rd_mkMK (Evl.ea_cons (Evl.ev_var rfl) (Evl.ea_cons (Evl.ev_var rfl) Evl.ea_nil)) (.reg r1) (.reg hr2) (fun t h => some_le h) (fun t h => some_le h) (mk fun q1 G1 g1 w1 => ?_)
    refine rd_mkMR (Evl.ea_cons (Evl.ev_var rfl) (Evl.ea_cons (Evl.ev_var rfl) Evl.ea_nil)) (.reg (r1.mono g1)) (.reg (hr2.mono g1)) (fun t h => some_le h) (fun t h => some_le h) (mk fun q2 G2 g2 w2 => ?_)
    have g12 := g1.trans g2
    refine rd_mkMR (Evl.ea_cons (Evl.ev_var rfl) (Evl.ea_cons (Evl.ev_var rfl) Evl.ea_nil)) (.reg (r1.mono g12)) (.reg (hr2.mono g12)) (fun t h => some_le h) (fun t h => some_le h) (mk fun q3 G3 g3 w3 => ⟨(by show 3 ≤ sizeLine; decide), fun ll nll => ?_⟩)
    have g4 := Evl.Ex.new (o := .lst [q1, q2, q3]) nll
    have g14 := (g12.trans g3).trans g4
    have hll : (upd G3 ll (.lst [q1, q2, q3])) ll = some (.lst [q1, q2, q3]) := upd_same
    have W1 := ((w1.mono g2).mono g3).mono g4
    have W2 := (w2.mono g3).mono g4
    have W3 := w3.mono g4
    generalize upd G3 ll (.lst [q1, q2, q3]) = G4 at g14 hll W1 W2 W3 ⊢
    have R1 := r1.mono g14
    have R2 := hr2.mono g14
    refine ne3_open rfl ?_
    refine rd_mkM (Evl.ea_cons (Evl.ev_var rfl) (Evl.ea_cons (Evl.ev_var rfl) Evl.ea_nil)) (.reg R1) (.reg R2) (fun t h => some_le h) (fun t h => some_le h) (mk fun q1' F1 h1 v1 => ?_)
    refine rd_mkM (Evl.ea_cons (Evl.ev_var rfl) (Evl.ea_cons (Evl.ev_var rfl) Evl.ea_nil)) (.reg (R1.mono h1)) (.reg (R2.mono h1)) (fun t h => some_le h) (fun t h => some_le h) (mk fun q2' F2 h2 v2 => ?_)
    have h12 := h1.trans h2
    refine rd_mkM (Evl.ea_cons (Evl.ev_var rfl) (Evl.ea_cons (Evl.ev_var rfl) Evl.ea_nil)) (.reg (R1.mono h12)) (.reg (R2.mono h12)) (fun t h => some_le h) (fun t h => some_le h) (mk fun q3' F3 h3 v3 => ⟨(by show 3 ≤ sizeLine; decide), fun l2 nl2 => ?_⟩)
    have h4 := Evl.Ex.new (o := .lst [q1', q2', q3']) nl2
    have h14 := (h12.trans h3).trans h4
    have d2 : ∀ sg : Sg, (Tr.node sg (.leaf z0) (.leaf zl)).depth ≤ 2 := fun _ => (by show 1 + max 0 0 ≤ 2; decide)
    refine ⟨⟨ll, l2, _, _, rfl, rfl, h14 _ _ hll, upd_same, Prs.cons (own_of T (W1.mono h14) (((v1.mono h2).mono h3).mono h4) (d2 _)) (Prs.cons (own_of T (W2.mono h14) ((v2.mono h3).mono h4) (d2 _)) (Prs.cons (own_of T (W3.mono h14) (v3.mono h4) (d2 _)) Prs.nil))⟩, fun G5 g5 => ⟨false, rfl, ?_⟩⟩
    have all : Evl.Ex H6 G5 := (((e7.trans e8).trans g14).trans h14).trans g5
    rw [if_neg Bool.false_ne_true]
    clear R1 R2 W1 W2 W3 v1 v2 v3 w1 w2 w3 r1 hr1 hr2 mk
    have k27 : Kp p H2 G5 := k26.trans (Same.kp all)
    -- read back
    refine ⟨rfl, v, rfl, v, t, rfl, ts2 k27, hN, hd, Nat.le_refl _, fun G6 g6 => ⟨.str t.said, rfl, .inl ⟨t.said, rfl, (by have := said_few hN hd; omega), (by rw [split_said hN]; exact fun x hx => Nat.le_trans (items_ok hN x hx).1 (by decide)), .inl ⟨t, t.items.length, by rw [split_said hN]; exact (prs_said hN hd).1, by rw [split_said hN]; exact (prs_said hN hd).2, fun xb G7 g7 hxb => ?_⟩⟩⟩⟩
    have g67 := g6.trans g7
    have k28 : Kp p H2 G7 := k27.trans (Same.kp g67)
    have pG := ((p6.same all).same g67)
    refine Evl.s_ret (v := .bl true) (Evl.ev_is (Evl.ev_andV (a := decide (V.str t.said = V.str t.said)) (b := decide (t = t) && true) (Evl.ev_op (ev_strO (Evl.ev_var rfl) (xs2 k28) hd (short_of hN)) (ev_said (v := v) rfl (ts2 k28) hN hd) (Evl.rv_eq rfl)) fun _ =>
      Evl.ev_andV (T.ev_eq (Evl.ev_var rfl) (Evl.ev_var rfl) hxb (xs2 k28) hd) fun _ => Evl.ev_call (Evl.ea_cons (Evl.ev_var (v := v) rfl) (Evl.ea_cons (Evl.ev_var (v := xb) rfl) Evl.ea_nil)) fun G e Q q _ => ⟨v, xb, t, rfl, (ts2 k28).mono e, hN, hd, hxb.mono e, q⟩) (by simp)) fun G8 g8 => q G8 ((k12.trans k28).trans (Same.kp g8)) (pG.same g8)
end
end K04
/-! try .. except X as n, more clauses behind it: what the body raises is an X. -/
namespace BW
open PySem PySem.Spec PyProof.Rows L2
/-- the first clause takes it -/
def wFst (K : PySem.W.Frag) (c : Value) (i : Nat) (ts : Addr → Value → Option Addr → TS) (D : Ends) : WX := fun cls d σ H =>
  PySem.W.exmOne K cls c = some true ∧ ∀ a, H a = none → ts a cls d { nx := fun σ1 H1 => D.nx (σ1.set i none) H1, rt := D.rt, bk := fun σ1 H1 => D.bk (σ1.set i none) H1, ct := fun σ1 H1 => D.ct (σ1.set i none) H1 } (σ.set i (some (.ref a))) H
section
variable {X : Cx} {x n : Str} {c : Value} {i : Nat} {body suite : List Stmt} {b₀ : Stmt} {more : List ExceptHandler} {np pos pos' : Pos} {tb : WX → TS} {ts : Addr → Value → Option Addr → TS}
theorem not_frame {B h : Heap} {l : List Env} {a : Addr} {o : Obj} {vs : Array Value} (ff : h.FunFrames B l) (e : h.get? a = some o) (dd : o.data = .fields vs) : a ∉ frs l := fun hm => by
  obtain ⟨_, u, eu, nf⟩ := ff.mem hm
  obtain rfl := Option.some.inj (e.symm.trans eu)
  exact nf _ dd
theorem ps_try_fst (hs : X.stack = X.env :: X.outer) (hf : X.env.frame = some X.env.locals) (hN : X.N.Nodup) (hi : X.N[i]? = some n) (hln : X.env.kindOf n = some .local) (hc : Names X x c)
    (hb : ∀ (W : WX) (pn : List (Addr × Obj)) (xe : Value → Shared → Prop), Takes (X.tr pn xe) W → PSs (X.tr pn xe) body (tb W))
    (hsu : ∀ (a : Addr) (oe : Obj) (cls : Value) (d : Option Addr) (pn : List (Addr × Obj)), Zc cls d oe → (∃ vs, oe.data = .fields vs) → PSs (X.suite a ((a, oe) :: pn)) (b₀ :: suite) (ts a cls d)) :
    PS X (.Try body (.ExceptHandler (some (.Name x np)) (some n) (b₀ :: suite) pos' :: more) [] [] pos) (fun D σ H => tb (wFst X.K c i ts D) D σ H) := by
  constructor
  intro pins s σ H D I h
  have ok := I.ok
  have fr : X.A.frames = some (X.env :: X.outer) := ok.frames.trans (congrArg some hs)
  refine wpAny_Try_except (wpAny_mono ((hb (wFst X.K c i ts D) (X.pn ++ pins) (fun e s₁ => wpAny (model X.prog X.w) X.A (noteFrame e X.env) (fun _ s₂ => wpAny (model X.prog X.w) X.A (setFlight e none) (fun _ s₃ =>
    wpAny (model X.prog X.w) X.A (handleBy e X.env (.ExceptHandler (some (.Name x np)) (some n) (b₀ :: suite) pos' :: more)) (SP X pins D) X.xe s₃) X.xe s₂) X.xe s₁) (fun u s2 air => ?_)).run [] s σ H D (I.toTry _) h) (fun f s1 hq => ?_) fun _ _ z => z)
  · obtain ⟨a, B, sI, pn2, σ2, H2, cls, d, rfl, J, nb, up, sky, na, os, ag, hx, hgo⟩ := air
    have J0 : Inv X pins σ2 H2 sI := J.ofTry ok
    show wpAny (model X.prog X.w) X.A (noteFrame (.ref a) X.env) _ _ _
    refine Sky.land (B := B) (Z := Zc cls d) Zc.steady fr hf (by rw [← hs]; exact sky) fun g fl up3 => ?_
    have J3 : Inv X pins σ2 H2 { s2 with heap := g } := J0.landed nb fl.1 (up.trans up3) os ag
    obtain ⟨oe, vs, ge, ze, de⟩ := fl.there
    have nfr := not_frame fl.2.2.1 ge de
    have nL : a ≠ X.env.locals := fun z => nfr (List.mem_filterMap.mpr ⟨X.env, List.mem_cons_self, by rw [z, hf]⟩)
    have nF : a ∉ X.fs := fun hm => let ⟨e, he, q⟩ := List.mem_filterMap.mp hm; nfr (List.mem_filterMap.mpr ⟨e, List.mem_cons_of_mem _ he, q⟩)
    have S3 := J3.suite ge de na nL nF
    have ty : PySem.W.Looks (model X.prog X.w) g (typeOf (.ref a)) cls := fun _ _ _ t k q => wpAny_typeOf_ref (k _ _ ge) (by rw [ze.1]; exact q)
    have takes := PySem.W.exm_one (M := model X.prog X.w) J3.kIn ty hx
    have named : ∀ {R : Value → Shared → Prop} {E : Value → Shared → Prop}, R c { s2 with heap := g } → wpAny (model X.prog X.w) (X.A.mark (some (.ref a))) (eval (.Name x np) X.env) R E { s2 with heap := g } := fun {R E} q => by
      obtain ⟨hg, hdb, hm⟩ := hc
      rcases hm with hm | ⟨hm, hv, hnn⟩
      · exact ld_glob (X := X.suite a ((a, oe) :: (X.pn ++ pins))) S3 hg hm q hdb
      · exact ld_blt (X := X.suite a ((a, oe) :: (X.pn ++ pins))) S3 hg hm hv q hnn hdb
    refine wpAny_handleBy_cons (codeAny_handlers_test (named (takes.here (codeAny_handlers_suite_as (HandSPX.lands_againZ fl fun g4 fl4 up4 => ?_))))) (fun z => nomatch z)
    have J4 : Inv X pins σ2 H2 { s2 with heap := g4 } := J0.landed nb fl4.1 ((up.trans up3).trans up4) os ag
    obtain ⟨o4, v4, g4e, z4, d4⟩ := fl4.there
    have S4 := J4.suite g4e d4 na nL nF
    refine store_ok (X := X.suite a ((a, o4) :: (X.pn ++ pins))) (v := .ref a) S4 hN hi (.inl hln) rfl (fun s5 S5 => ?_) (.inr hln)
    refine wpAny_mono ((hsu a o4 cls d (X.pn ++ pins) z4 ⟨_, d4⟩).run [] s5 _ H2 _ S5 (hgo a na)) (fun f s6 hq => ?_) (fun _ _ z => z.elim)
    have out : ∀ {σ6 : L2.St} {H6 : Hp} {R : Shared → Prop}, Inv (X.suite a ((a, o4) :: (X.pn ++ pins))) [] σ6 H6 s6 → (∀ s7, Inv X pins (σ6.set i none) H6 s7 → R s7) → wpAny (model X.prog X.w) X.A (do bindName X.env n .none; unbindBehindTheSuite X.env n pos') (fun _ s7 => R s7) X.xe s6 :=
      fun {σ6 H6 R} S6 q => gone_ok (S6.unsuite ok) hN hi hln q
    cases f with
    | next => exact let ⟨_, _, S6, q⟩ := hq; out S6 fun _ J7 => ⟨_, _, J7, q⟩
    | brk => exact let ⟨_, _, S6, q⟩ := hq; out S6 fun _ J7 => ⟨_, _, J7, q⟩
    | cont => exact let ⟨_, _, S6, q⟩ := hq; out S6 fun _ J7 => ⟨_, _, J7, q⟩
    | ret u => exact let ⟨_, _, _, S6, r, q⟩ := hq; out S6 fun _ J7 => ⟨_, _, _, J7, r, q⟩
  · cases f with
    | next => exact let ⟨_, _, J, q⟩ := hq; wpAny_execs_nil ⟨_, _, J.ofTry ok, q⟩
    | brk => exact let ⟨_, _, J, q⟩ := hq; ⟨_, _, J.ofTry ok, q⟩
    | cont => exact let ⟨_, _, J, q⟩ := hq; ⟨_, _, J.ofTry ok, q⟩
    | ret u => exact let ⟨_, _, _, J, r, q⟩ := hq; ⟨_, _, _, J.ofTry ok, r, q⟩
end
end BW
/-! What an except clause caught, kept behind it: its attributes, isinstance of it. -/
namespace BW
open PySem PySem.Spec PyProof.Rows L2
/-- an exception that was in the air, its class, its dict -/
def exw (a C : Addr) (d : Option Addr) : HO := .ext fun h => ∃ (o : Obj) (vs : Array Value), h.get? a = some o ∧ o.cls = .ref C ∧ o.dict = d ∧ o.data = .fields vs
theorem exw_ok {P : Program} {w : World} {H : Hp} {h : Heap} {a C : Addr} {d : Option Addr} {o : Obj} {vs : Array Value} (h1 : h.get? a = some o) (h2 : o.cls = .ref C) (h3 : o.dict = d) (h4 : o.data = .fields vs) : ObjOk P w H h a (exw a C d) :=
  ⟨⟨o, vs, h1, h2, h3, h4⟩, ⟨o, h1⟩, fun _ _ ⟨o, vs, e1, e2⟩ k => ⟨o, vs, k o e1, e2⟩⟩
section
variable {X : Cx} {pins : List (Addr × Obj)} {σ : L2.St} {H : Hp} {s : Shared}
theorem inv_track {a C : Addr} {d : Option Addr} {oe : Obj} {vs : Array Value} (I : Inv X pins σ H s) (ha : s.heap.get? a = some oe) (hc : oe.cls = .ref C) (hd : oe.dict = d) (hf : oe.data = .fields vs) (na : H a = none) (nL : a ≠ X.env.locals)
    (np : ∀ p ∈ X.pn ++ pins, p.1 ≠ a) (n0 : ∀ o, X.s_0.heap.get? a = some o → X.H_0 a = none → a ∉ X.ex → False) : Inv X pins σ (upd H a (exw a C d)) s := by
  have ne : ∀ {b : Addr} {o : HO}, H b = some o → b ≠ a := fun hb e => by
    rw [e, na] at hb
    cases hb
  refine ⟨I.ok, I.os, I.bare, ⟨I.base.keep, I.base.slot, fun b o e n hx => ?_, I.base.there, fun b xs e => ?_, fun b o u e => ?_, fun b ps e => ?_⟩, I.loc, I.cell, ?_, fun x c e => ?_, fun p hp => ?_, I.hok.laidN (fun _ _ e => e) na (exw_ok ha hc hd hf), I.len⟩
  · by_cases hb : b = a
    · subst hb
      exact (n0 o e n hx).elim
    · rw [upd_ne hb]
      exact I.base.free b o e n hx
  · have h := I.base.tups b xs e
    rw [upd_ne (ne h)]
    exact h
  · have h := I.base.frzs b o u e
    rw [upd_ne (ne h)]
    exact h
  · obtain ⟨more, h⟩ := I.base.tbls b ps e
    exact ⟨more, by rw [upd_ne (ne h)]; exact h⟩
  · rw [upd_ne nL.symm]
    exact I.free
  · have hca : c ≠ a := fun z => by
      obtain ⟨v, hv⟩ := I.cell x c e
      obtain ⟨o, ho, hdt⟩ := hv
      rw [z, ha] at ho
      obtain rfl := Option.some.inj ho
      rw [hf] at hdt
      cases hdt
    rw [upd_ne hca]
    exact I.freeC x c e
  · obtain ⟨h1, h2, h3⟩ := I.pin p hp
    exact ⟨h1, by rw [upd_ne (np p hp)]; exact h2, h3⟩
/-- the clause takes it, and it is kept -/
def wKeep (K : PySem.W.Frag) (c : Value) (i : Nat) (ts : Addr → Value → Option Addr → TS) (D : Ends) : WX := fun cls d σ H =>
  PySem.W.exmOne K cls c = some true ∧ ∃ C, cls = .ref C ∧ ∀ a, H a = none → ts a cls d { nx := fun σ1 H1 => H1 a = none ∧ D.nx (σ1.set i none) (upd H1 a (exw a C d)), rt := fun _ _ => False, bk := fun _ _ => False, ct := fun _ _ => False } (σ.set i (some (.ref a))) H
variable {x n : Str} {c : Value} {i : Nat} {body suite : List Stmt} {b₀ : Stmt} {more : List ExceptHandler} {np pos pos' : Pos} {tb : WX → TS} {ts : Addr → Value → Option Addr → TS}
theorem ps_try_keep (hs : X.stack = X.env :: X.outer) (hf : X.env.frame = some X.env.locals) (hN : X.N.Nodup) (hi : X.N[i]? = some n) (hln : X.env.kindOf n = some .local) (hc : Names X x c)
    (hb : ∀ (W : WX) (pn : List (Addr × Obj)) (xe : Value → Shared → Prop), Takes (X.tr pn xe) W → PSs (X.tr pn xe) body (tb W))
    (hsu : ∀ (a : Addr) (oe : Obj) (cls : Value) (d : Option Addr) (pn : List (Addr × Obj)), Zc cls d oe → (∃ vs, oe.data = .fields vs) → PSs (X.suite a ((a, oe) :: pn)) (b₀ :: suite) (ts a cls d)) :
    PS X (.Try body (.ExceptHandler (some (.Name x np)) (some n) (b₀ :: suite) pos' :: more) [] [] pos) (fun D σ H => tb (wKeep X.K c i ts D) D σ H) := by
  constructor
  intro pins s σ H D I h
  have ok := I.ok
  have fr : X.A.frames = some (X.env :: X.outer) := ok.frames.trans (congrArg some hs)
  refine wpAny_Try_except (wpAny_mono ((hb (wKeep X.K c i ts D) (X.pn ++ pins) (fun e s₁ => wpAny (model X.prog X.w) X.A (noteFrame e X.env) (fun _ s₂ => wpAny (model X.prog X.w) X.A (setFlight e none) (fun _ s₃ =>
    wpAny (model X.prog X.w) X.A (handleBy e X.env (.ExceptHandler (some (.Name x np)) (some n) (b₀ :: suite) pos' :: more)) (SP X pins D) X.xe s₃) X.xe s₂) X.xe s₁) (fun u s2 air => ?_)).run [] s σ H D (I.toTry _) h) (fun f s1 hq => ?_) fun _ _ z => z)
  · obtain ⟨a, B, sI, pn2, σ2, H2, cls, d, rfl, J, nb, up, sky, na, os, ag, hx, C, rfl, hgo⟩ := air
    have J0 : Inv X pins σ2 H2 sI := J.ofTry ok
    show wpAny (model X.prog X.w) X.A (noteFrame (.ref a) X.env) _ _ _
    refine Sky.land (B := B) (Z := Zc (.ref C) d) Zc.steady fr hf (by rw [← hs]; exact sky) fun g fl up3 => ?_
    have J3 : Inv X pins σ2 H2 { s2 with heap := g } := J0.landed nb fl.1 (up.trans up3) os ag
    obtain ⟨oe, vs, ge, ze, de⟩ := fl.there
    have nfr := not_frame fl.2.2.1 ge de
    have Ba : B.get? a = none := fl.2.1
    have nL : a ≠ X.env.locals := fun z => nfr (List.mem_filterMap.mpr ⟨X.env, List.mem_cons_self, by rw [z, hf]⟩)
    have nF : a ∉ X.fs := fun hm => let ⟨e, he, q⟩ := List.mem_filterMap.mp hm; nfr (List.mem_filterMap.mpr ⟨e, List.mem_cons_of_mem _ he, q⟩)
    have nfrs : a ∉ frs X.stack := by rw [hs]; exact nfr
    have hpin : ∀ p ∈ X.pn ++ pins, p.1 ≠ a := fun p hp e => by
      obtain ⟨h1, _⟩ := J0.pin p hp
      rw [e] at h1
      have h2 := nb a _ h1 nfrs
      rw [Ba] at h2
      cases h2
    have n0 : ∀ o, X.s_0.heap.get? a = some o → X.H_0 a = none → a ∉ X.ex → False := fun o e1 e2 e3 => by
      have h1 := J0.base.keep a o e1 e2 nF e3
      have h2 := nb a _ h1 nfrs
      rw [Ba] at h2
      cases h2
    have S3 := J3.suite ge de na nL nF
    have ty : PySem.W.Looks (model X.prog X.w) g (typeOf (.ref a)) (.ref C) := fun _ _ _ t k q => wpAny_typeOf_ref (k _ _ ge) (by rw [ze.1]; exact q)
    have takes := PySem.W.exm_one (M := model X.prog X.w) J3.kIn ty hx
    have named : ∀ {R : Value → Shared → Prop} {E : Value → Shared → Prop}, R c { s2 with heap := g } → wpAny (model X.prog X.w) (X.A.mark (some (.ref a))) (eval (.Name x np) X.env) R E { s2 with heap := g } := fun {R E} q => by
      obtain ⟨hg, hdb, hm⟩ := hc
      rcases hm with hm | ⟨hm, hv, hnn⟩
      · exact ld_glob (X := X.suite a ((a, oe) :: (X.pn ++ pins))) S3 hg hm q hdb
      · exact ld_blt (X := X.suite a ((a, oe) :: (X.pn ++ pins))) S3 hg hm hv q hnn hdb
    refine wpAny_handleBy_cons (codeAny_handlers_test (named (takes.here (codeAny_handlers_suite_as (HandSPX.lands_againZ fl fun g4 fl4 up4 => ?_))))) (fun z => nomatch z)
    have J4 : Inv X pins σ2 H2 { s2 with heap := g4 } := J0.landed nb fl4.1 ((up.trans up3).trans up4) os ag
    obtain ⟨o4, v4, g4e, z4, d4⟩ := fl4.there
    have S4 := J4.suite g4e d4 na nL nF
    refine store_ok (X := X.suite a ((a, o4) :: (X.pn ++ pins))) (v := .ref a) S4 hN hi (.inl hln) rfl (fun s5 S5 => ?_) (.inr hln)
    refine wpAny_mono ((hsu a o4 (.ref C) d (X.pn ++ pins) z4 ⟨_, d4⟩).run [] s5 _ H2 _ S5 (hgo a na)) (fun f s6 hq => ?_) (fun _ _ z => z.elim)
    cases f with
    | next =>
      obtain ⟨σ6, H6, S6, n6, q⟩ := hq
      obtain ⟨h6, _⟩ := S6.pin (a, o4) (List.mem_append_left _ List.mem_cons_self)
      have J6 : Inv X pins σ6 H6 s6 := S6.unsuite ok
      exact gone_ok (inv_track J6 h6 z4.1 z4.2 d4 n6 nL hpin n0) hN hi hln fun s7 J7 => ⟨_, _, J7, q⟩
    | brk => exact let ⟨_, _, _, q⟩ := hq; q.elim
    | cont => exact let ⟨_, _, _, q⟩ := hq; q.elim
    | ret u => exact let ⟨_, _, _, _, _, q⟩ := hq; q.elim
  · cases f with
    | next => exact let ⟨_, _, J, q⟩ := hq; wpAny_execs_nil ⟨_, _, J.ofTry ok, q⟩
    | brk => exact let ⟨_, _, J, q⟩ := hq; ⟨_, _, J.ofTry ok, q⟩
    | cont => exact let ⟨_, _, J, q⟩ := hq; ⟨_, _, J.ofTry ok, q⟩
    | ret u => exact let ⟨_, _, _, J, r, q⟩ := hq; ⟨_, _, _, J.ofTry ok, r, q⟩
end
/-! ### what is kept -/
theorem exw_at {P : Program} {w : World} {H : Hp} {h : Heap} {a C : Addr} {d : Option Addr} (k : HOk P w H h) (ea : H a = some (exw a C d)) : ∃ (o : Obj) (vs : Array Value), h.get? a = some o ∧ o.cls = .ref C ∧ o.dict = d ∧ o.data = .fields vs := (k a _ ea).1
theorem inst_w {X : Cx} {pins : List (Addr × Obj)} {σ : L2.St} {H : Hp} {s : Shared} {a C d : Addr} {fs : List (Str × V)} (I : Inv X pins σ H s) (ea : H a = some (exw a C (some d))) (ed : H d = some (.xd fs)) :
    ∃ (ox od : Obj) (mA : Str → Option Value), PySem.W.InstAt s.heap a ox C (some od) ∧ (∀ f, RelO (fs.lookup f) (mA f)) ∧ ∀ f, PySem.W.lookIn f od = some (mA f) := by
  obtain ⟨o, vs, ho, h1, h2, h3⟩ := exw_at I.hok ea
  have hx : ObjOk X.prog X.w H s.heap d (.xd fs) := I.hok d _ ed
  obtain ⟨mA, hns, rel⟩ := hx
  obtain ⟨od, hod, hlk⟩ := lookIn_ns hns
  exact ⟨o, od, mA, ⟨ho, h1, by unfold PySem.W.notCls; rw [h3] <;> rfl, by rw [h2]; exact hod⟩, rel, hlk⟩
/-- e.f -/
def tXW (K : PySem.W.Frag) (f : Str) (te : TE) : TE := fun σ H Q => te σ H fun x H1 => ∃ (a C d : Addr) (fs : List (Str × V)) (v : V), x = .ref a ∧ H1 a = some (exw a C (some d)) ∧ H1 d = some (.xd fs) ∧ XfC K C ∧ PySem.W.findIn K (.ref C) f = some none ∧ fs.lookup f = some v ∧ Q v H1
theorem pe_xw {X : Cx} {e : Expr} {te : TE} {pos : Pos} {f : Str} (he : PE X e te) (hb : attributeBase e f X.env (eval e X.env) = eval e X.env := by rfl) : PE X (.Attribute e f pos) (tXW X.K f te) := by
  refine ⟨fun pins s σ H Q I h => ?_⟩
  refine attr_of hb (thn (he.run pins s σ H _ I h) fun u s1 hh => ?_)
  obtain ⟨x, H1, I1, rx, a, C, d, fs, v, ex, ea, ed, T, hno, hl, q⟩ := hh
  subst ex
  obtain rfl : u = Value.ref a := rx
  obtain ⟨ox, od, mA, J, rel, hlk⟩ := inst_w I1 ea ed
  obtain ⟨u, hu, ru⟩ := RelO.some_of (v := v) (o := mA f) (by rw [← hl]; exact rel f)
  exact HandSPX.exc_get I1.kIn J T.ga T.gg T.exC (PySem.W.findObj_own T.hdC hno rfl (by rw [hlk, hu])) (handed_of ru) ⟨v, H1, I1.tok _, ru, q⟩
/-- isinstance(e, c), e caught, or any value -/
def rIsW (K : PySem.W.Frag) : List V → Hp → VK → Prop := fun xs H Q => rIsi K xs H Q ∨ ∃ (a C d : Addr) (fs : List (Str × V)) (c : V) (cv : Value) (b : Bool),
  xs = [.ref a, c] ∧ H a = some (exw a C (some d)) ∧ H d = some (.xd fs) ∧ ExcC K C ∧ ClsV c cv ∧ PySem.W.kitOne K (.ref C) cv = some b ∧ Q (.bl b) H
theorem call_isW {X : Cx} : CallR X (.builtin "isinstance") (rIsW X.K) := by
  intro pins s σ H xs us Q I r h
  rcases h with h | ⟨a, C, d, fs, c, cv, b, rfl, ea, ed, T, k, e, q⟩
  · exact call_isi pins s σ H xs us Q I r h
  · obtain ⟨u1, u2, rfl, r1, r2⟩ := vals2 r
    obtain rfl := k.eq r2
    cases (show u1 = Value.ref a from r1)
    obtain ⟨ox, od, _, J, _⟩ := inst_w I ea ed
    exact PySem.W.kia_one (kitx_inst T) I.kIn J e (fun z => nomatch z) fun tk => ⟨.bl b, H, I.tok tk, rfl, q⟩
end BW
namespace K04
open PySem PySem.Spec PyProof.Rows L2 BW LamX
abbrev sHeard : Stmt := topS 40
/-- the classes of errors -/
structure Ers (P : Program) (w : World) (K : PySem.W.Frag) (mg : Str → Option Value) (base : Heap) (CE CB CW CT : Addr) : Prop where
  gE : mg "WordsError" = some (.ref CE)
  b : E1 P w K mg base "BadRegion" "part" CB
  w_ : E1 P w K mg base "BadWorld" "part" CW
  t : E2 P w K mg base "BadText" "line" "item" CT
  cB : ExcC K CB
  cW : ExcC K CW
  cT : ExcC K CT
  tB : PySem.W.exmOne K (.ref CB) (.ref CE) = some true
  tW : PySem.W.exmOne K (.ref CW) (.ref CE) = some true
  tT : PySem.W.exmOne K (.ref CT) (.ref CE) = some true
  bb : PySem.W.kitOne K (.ref CB) (.ref CB) = some true
  wb : PySem.W.kitOne K (.ref CW) (.ref CB) = some false
  ww : PySem.W.kitOne K (.ref CW) (.ref CW) = some true
  tb : PySem.W.kitOne K (.ref CT) (.ref CB) = some false
  tw : PySem.W.kitOne K (.ref CT) (.ref CW) = some false
  tt : PySem.W.kitOne K (.ref CT) (.ref CT) = some true
  nb : PySem.W.kitOne K (.type "NoneType") (.ref CB) = some false
  nw : PySem.W.kitOne K (.type "NoneType") (.ref CW) = some false
  nt : PySem.W.kitOne K (.type "NoneType") (.ref CT) = some false
/-- what is heard of an error -/
def OutE (CB CW CT : Addr) (Q : VK) : XK := fun cls d H => ∃ dd, d = some dd ∧
  ((cls = .ref CB ∧ ∃ v, H dd = some (.xd [("part", v)]) ∧ ∀ H' p, Evl.Ex H H' → H' p = some (.tup [.str "region", v]) → Q (.ref p) H') ∨
   (cls = .ref CW ∧ ∃ v, H dd = some (.xd [("part", v)]) ∧ ∀ H' p, Evl.Ex H H' → H' p = some (.tup [.str "world", v]) → Q (.ref p) H') ∨
   (cls = .ref CT ∧ ∃ x y, H dd = some (.xd [("item", y), ("line", x)]) ∧ ∀ H' p q, Evl.Ex H H' → H' q = some (.tup [x, y]) → H' p = some (.tup [.str "text", .ref q]) → Q (.ref p) H'))
def THeard (CB CW CT : Addr) : (XK → Hp → VK → Prop) → Hp → VK → Prop := fun tl H Q => tl (OutE CB CW CT Q) H (fun _ H1 => Q .non H1)
theorem scHeard : FnScope ["_law_ask", "_law_caught", "error"] ["_law_ask"] (defScope sHeard) := ⟨rfl, rfl, rfl, by decide +kernel, rfl, by decide +kernel, by decide +kernel⟩
section
variable {P : Program} {w : World} {K : PySem.W.Frag} {mg : Str → Option Value} {base : Heap} {CE CB CW CT : Addr}
theorem rc_isW {a C D d : Addr} {fs : List (Str × V)} {b : Bool} {H : Hp} (h1 : H a = some (exw a C (some d))) (h2 : H d = some (.xd fs)) (S : ExcC K C) (hk : PySem.W.kitOne K (.ref C) (.ref D) = some b) : Evl.RC (rIsW K) [.ref a, .ref D] H (.bl b) := fun H1 e Q q =>
  .inr ⟨a, C, d, fs, .ref D, .ref D, b, rfl, e _ _ h1, e _ _ h2, S, .own D, hk, q H1 (Evl.Ex.refl H1)⟩
theorem rc_isN {D : Addr} {H : Hp} (hk : PySem.W.kitOne K (.type "NoneType") (.ref D) = some false) : Evl.RC (rIsW K) [.non, .ref D] H (.bl false) := fun H1 e Q q =>
  .inl ⟨.non, .ref D, _, .ref D, false, rfl, .own D, (Knd.non (H := H1)).tyx, hk, q H1 (Evl.Ex.refl H1)⟩
theorem ev_xw {σ : L2.St} {H : Hp} {i : Nat} {a C d : Addr} {fs : List (Str × V)} {f : Str} {v : V} (hσ : σ[i]? = some (some (.ref a))) (h1 : H a = some (exw a C (some d))) (h2 : H d = some (.xd fs)) (S : XfC K C) (no : PySem.W.findIn K (.ref C) f = some none) (hl : fs.lookup f = some v) : Evl.Ev (tXW K f (tVar i)) σ H v := fun H1 e Q q =>
  ⟨.ref a, hσ, a, C, d, fs, v, rfl, e _ _ h1, e _ _ h2, S, no, hl, q H1 (Evl.Ex.refl H1)⟩
theorem heard_gives {X : Cx} (mi : X.mg "isinstance" = none) (T : Ers X.prog X.w X.K X.mg X.base CE CB CW CT) {g : Addr} {cdg : Value} {q : Str} : GivesTo X ["_law_ask", "_law_caught", "error"] "_law_heard" (defScope sHeard) g cdg (defBody sHeard) "_law_ask" q (THeard CB CW CT) := by
  intro f c' s H Q tl act hc h
  have nd := scHeard.nd
  refine ⟨_, pss_cons (ps_set (i := 1) nd rfl (.inl rfl) pe_non)
    (pss_cons (ps_try_keep (X := (cxOf C8.CX0 X.prog X.w X.K X.mg X.base ["_law_ask", "_law_caught", "error"] "_law_heard" (defScope sHeard) g cdg X.A X.stack s H C8.E0).nox) (c := .ref CE) (i := 2)
      (tb := fun W D σ H => ∃ (Ech : XK) (R : Hp → Prop), (∀ cls d σ' H', σ'.length = 3 → Ech cls d H' → W cls d σ' H') ∧ (∀ H1, R H1 → D.nx σ H1) ∧ σ[0]? = some (some (.ref f)) ∧ H c' = some (CodeO c' q) ∧ tl Ech H (fun _ H1 => R H1))
      rfl rfl nd rfl rfl ⟨rfl, by decide, .inl T.gE⟩ (fun W pn xe tk => ?_) (fun a oe cls d pn hz hf => pss_one (ps_set (i := 1) nd rfl (.inl rfl) (pv 2))))
    (pss_cons (ps_if (pt_val (pe_callB call_isW (by rfl) mi (by decide +kernel) (pa_cons (pv 1) (pa_cons (pe_glob (v := .ref CB) (by rfl) T.b.g rfl) pa_nil)))) (pss_one (ps_ret (pe_tup (pa_cons pe_str (pa_cons (pe_xw (pv 1)) pa_nil))))) pss_nil)
    (pss_cons (ps_if (pt_val (pe_callB call_isW (by rfl) mi (by decide +kernel) (pa_cons (pv 1) (pa_cons (pe_glob (v := .ref CW) (by rfl) T.w_.g rfl) pa_nil)))) (pss_one (ps_ret (pe_tup (pa_cons pe_str (pa_cons (pe_xw (pv 1)) pa_nil))))) pss_nil)
    (pss_cons (ps_if (pt_val (pe_callB call_isW (by rfl) mi (by decide +kernel) (pa_cons (pv 1) (pa_cons (pe_glob (v := .ref CT) (by rfl) T.t.g rfl) pa_nil)))) (pss_one (ps_ret (pe_tup (pa_cons pe_str (pa_cons (pe_tup (pa_cons (pe_xw (pv 1)) (pa_cons (pe_xw (pv 1)) pa_nil))) pa_nil))))) pss_nil)
    (pss_one (ps_ret (pe_ifExp (pt_cmpR op_isN (pv 1) pe_non (nomark _)) pe_non (pe_tup (pa_cons pe_str (pa_cons pe_non pa_nil)))))))))), ?_⟩
  · refine ⟨fun pins s' σ H' D I h' => ?_⟩
    obtain ⟨Ech, R, hW, hR, h1, h2, h3⟩ := h'
    have tk' : Takes ((cxOf C8.CX0 X.prog X.w X.K X.mg X.base ["_law_ask", "_law_caught", "error"] "_law_heard" (defScope sHeard) g cdg X.A X.stack s H C8.E0).tr pn xe) (fun cls d σ H => σ.length = 3 → W cls d σ H) := fun u s2 ⟨a, B, sI, pn2, σ2, H2, cls, d, e, J, nb, up, sky, na, os, ag, hw⟩ =>
      tk u s2 ⟨a, B, sI, pn2, σ2, H2, cls, d, e, J, nb, up, sky, na, os, ag, hw J.len⟩
    have e3 : (fun (_ : V) H1 => σ = σ ∧ R H1) = fun _ H1 => R H1 := by
      funext _ H1
      exact propext ⟨fun h => h.2, fun h => ⟨rfl, h⟩⟩
    rw [← e3] at h3
    refine thn ((pss_one (ps_expr (act (fun cls d σ H => σ.length = 3 → W cls d σ H) pn xe Ech _ _ tk' (fun cls d σ' H' e l => hW _ _ _ _ l e)))).run pins s' σ H' { D with nx := fun σ1 H1 => σ1 = σ ∧ R H1 } I ⟨h1, h2, h3⟩) fun fl s1 hq => ?_
    cases fl with
    | next => exact let ⟨σ1, H1, J, e, r⟩ := hq; ⟨σ1, H1, J, by rw [e]; exact hR H1 r⟩
    | brk => exact hq
    | cont => exact hq
    | ret u => exact hq
  · refine ⟨OutE CB CW CT Q, Q .non, fun cls d σ' H' hl e => ?_, fun H1 hq => ?_, rfl, hc, h⟩
    · obtain ⟨x0, x1, x2, rfl⟩ : ∃ x0 x1 x2, σ' = [x0, x1, x2] := by
        match σ', hl with
        | [x0, x1, x2], _ => exact ⟨x0, x1, x2, rfl⟩
      obtain ⟨dd, rfl, ⟨rfl, v, hd, hq⟩ | ⟨rfl, v, hd, hq⟩ | ⟨rfl, x, y, hd, hq⟩⟩ := e
      · refine ⟨T.tB, CB, rfl, fun a na => ⟨.ref a, rfl, na, ?_⟩⟩
        have ea := Evl.Ex.new (o := exw a CB (some dd)) na
        refine Evl.q_when (b := true) (Evl.et_B (Evl.ev_cb (Evl.ea_cons (Evl.ev_var (v := .ref a) rfl) (Evl.ea_cons Evl.ev_c Evl.ea_nil)) (rc_isW upd_same (ea _ _ hd) T.cB T.bb))) (fun _ H2 e2 => ?_) (fun z => nomatch z)
        exact Evl.s_retU (Evl.eu_tup (vs := [.str "region", v]) (Evl.ea_cons Evl.ev_c (Evl.ea_cons (ev_xw rfl (e2 _ _ upd_same) (e2 _ _ (ea _ _ hd)) T.b.X T.b.no rfl) Evl.ea_nil)) (by show 2 ≤ 100000; decide)) fun p H3 np e3 hp => hq H3 p ((ea.trans e2).trans e3) hp
      · refine ⟨T.tW, CW, rfl, fun a na => ⟨.ref a, rfl, na, ?_⟩⟩
        have ea := Evl.Ex.new (o := exw a CW (some dd)) na
        refine Evl.q_when (b := false) (Evl.et_B (Evl.ev_cb (Evl.ea_cons (Evl.ev_var (v := .ref a) rfl) (Evl.ea_cons Evl.ev_c Evl.ea_nil)) (rc_isW upd_same (ea _ _ hd) T.cW T.wb))) (fun z => nomatch z) (fun _ H2 e2 => ?_)
        refine Evl.q_when (b := true) (Evl.et_B (Evl.ev_cb (Evl.ea_cons (Evl.ev_var (v := .ref a) rfl) (Evl.ea_cons Evl.ev_c Evl.ea_nil)) (rc_isW (e2 _ _ upd_same) (e2 _ _ (ea _ _ hd)) T.cW T.ww))) (fun _ H3 e3 => ?_) (fun z => nomatch z)
        have e23 := e2.trans e3
        exact Evl.s_retU (Evl.eu_tup (vs := [.str "world", v]) (Evl.ea_cons Evl.ev_c (Evl.ea_cons (ev_xw rfl (e23 _ _ upd_same) (e23 _ _ (ea _ _ hd)) T.w_.X T.w_.no rfl) Evl.ea_nil)) (by show 2 ≤ 100000; decide)) fun p H4 np e4 hp => hq H4 p ((ea.trans e23).trans e4) hp
      · refine ⟨T.tT, CT, rfl, fun a na => ⟨.ref a, rfl, na, ?_⟩⟩
        have ea := Evl.Ex.new (o := exw a CT (some dd)) na
        refine Evl.q_when (b := false) (Evl.et_B (Evl.ev_cb (Evl.ea_cons (Evl.ev_var (v := .ref a) rfl) (Evl.ea_cons Evl.ev_c Evl.ea_nil)) (rc_isW upd_same (ea _ _ hd) T.cT T.tb))) (fun z => nomatch z) (fun _ H2 e2 => ?_)
        refine Evl.q_when (b := false) (Evl.et_B (Evl.ev_cb (Evl.ea_cons (Evl.ev_var (v := .ref a) rfl) (Evl.ea_cons Evl.ev_c Evl.ea_nil)) (rc_isW (e2 _ _ upd_same) (e2 _ _ (ea _ _ hd)) T.cT T.tw))) (fun z => nomatch z) (fun _ H3 e3 => ?_)
        have e23 := e2.trans e3
        refine Evl.q_when (b := true) (Evl.et_B (Evl.ev_cb (Evl.ea_cons (Evl.ev_var (v := .ref a) rfl) (Evl.ea_cons Evl.ev_c Evl.ea_nil)) (rc_isW (e23 _ _ upd_same) (e23 _ _ (ea _ _ hd)) T.cT T.tt))) (fun _ H4 e4 => ?_) (fun z => nomatch z)
        have e24 := e23.trans e4
        delta tRet tTup tCons
        dsimp only
        have k1 := e24 _ _ upd_same
        have k2 := e24 _ _ (ea _ _ hd)
        refine ⟨.ref a, rfl, a, CT, dd, _, x, rfl, k1, k2, T.t.X, T.t.no, rfl, .ref a, rfl, a, CT, dd, _, y, rfl, k1, k2, T.t.X, T.t.no1, rfl, (by show 2 ≤ sizeLine; decide), fun p np => ⟨(by show 2 ≤ sizeLine; decide), fun p2 np2 => ?_⟩⟩
        have e5 := Evl.Ex.new (o := .tup [x, y]) np
        have e6 := Evl.Ex.new (o := .tup [.str "text", .ref p]) np2
        exact hq _ p2 p (((ea.trans e24).trans e5).trans e6) (e6 _ _ upd_same) upd_same
    · have non : ∀ {D : Addr}, PySem.W.kitOne X.K (.type "NoneType") (.ref D) = some false → ∀ {Q2 : VK}, Q2 (.bl false) H1 → rIsW X.K [.non, .ref D] H1 Q2 := fun {D} hk {Q2} q2 => .inl ⟨.non, .ref _, _, .ref _, false, rfl, .own _, (Knd.non (H := H1)).tyx, hk, q2⟩
      refine ⟨.non, rfl, non T.nb ⟨false, rfl, iteF ?_⟩⟩
      refine ⟨.non, rfl, non T.nw ⟨false, rfl, iteF ?_⟩⟩
      refine ⟨.non, rfl, non T.nt ⟨false, rfl, iteF ?_⟩⟩
      exact ⟨.non, rfl, rfl, _, rfl, iteT hq⟩
end
end K04
namespace K04
open PySem PySem.Spec PyProof.Rows L2 BW LamX
def qText : Str := "_law_text_right.<locals>.<lambda>"
def qRef : Str := "_law_refused_right.<locals>.<lambda>"
abbrev sText : Stmt := topS 46
abbrev sRef : Stmt := topS 47
/-- the def, its code object at c -/
structure FunC (K : PySem.W.Frag) (x : Str) (st : Stmt) (f : Addr) (fd : FuncData) (c : Addr) : Prop where
  ex : ∃ (oc : Value) (od : Option Addr) (kV doc pm : Value) (an : Option Addr) (ct : Value) (osl : Array (Option Value)), fd = PySem.W.fnOf x x (defArgs st) (defBody st) (defScope st) .none kV doc pm an (.ref c) ct ∧ K.lookup f = some ⟨oc, od, .func fd, osl⟩ ∧ PySem.W.codeIn K (.ref c) x = true
/-- _law_heard, as the lambda is handed to it -/
structure HdF (K : PySem.W.Frag) (mg : Str → Option Value) (g : Addr) : Prop where
  gl : mg "_law_heard" = some (.ref g)
  kp : PySem.W.keepIn K (.ref g) = true
  ex : ∃ (oc : Value) (od : Option Addr) (dV kV doc pm : Value) (an : Option Addr) (cdv ct : Value) (osl : Array (Option Value)), K.lookup g = some ⟨oc, od, .func (PySem.W.fnOf "_law_heard" "_law_heard" (defArgs sHeard) (defBody sHeard) (defScope sHeard) dV kV doc pm an cdv ct), osl⟩ ∧ PySem.W.codeIn K cdv "_law_heard" = true ∧
    L2.Binds K (PySem.W.fnOf "_law_heard" "_law_heard" (defArgs sHeard) (defBody sHeard) (defScope sHeard) dV kV doc pm an cdv ct) ["_law_ask"] []
theorem codeO_lst {c : Addr} {q : Str} {xs : List V} : CodeO c q ≠ .lst xs := fun z => by
  unfold CodeO at z
  cases z
theorem tabs_kp {T : List (Addr × Str)} {p : Addr} {H H' : Hp} {xs : List V} (hp : H p = some (.lst xs)) (h : Tabs T H) (k : Kp p H H') : Tabs T H' := fun q hq => by
  obtain ⟨ps, h1, h2, h3⟩ := h q hq
  have ne : ∀ {b : Addr} {o : HO}, H b = some o → (∀ ys, o ≠ .lst ys) → b ≠ p := fun {b o} hb hn z => by
    rw [z, hp] at hb
    exact hn _ (Option.some.inj hb).symm
  refine ⟨ps, k _ _ (ne h1 fun ys z => nomatch z) h1, h2, fun pos cv hc => ?_⟩
  obtain ⟨c, e1, e2⟩ := h3 pos cv hc
  exact ⟨c, e1, k _ _ (ne e2 fun ys => codeO_lst) e2⟩
theorem tabs_pen {T : List (Addr × Str)} {p L : Addr} {n : Nat} {H H' : Hp} (hp : PenL H p L n) (h : Tabs T H) (k : Kp p H H') : Tabs T H' := by
  obtain ⟨xs, hx⟩ := K04.PenL.hid hp
  exact tabs_kp hx h k
/-- all but the pen and the tables stay -/
def KpT (p : Addr) (H H' : Hp) : Prop := ∀ b o, b ≠ p → H b = some o → (∀ ps, o ≠ .tbl ps) → H' b = some o
theorem KpT.of {p : Addr} {H H' : Hp} (k : Kp p H H') : KpT p H H' := fun b o n h _ => k b o n h
theorem KpT.ofN {p : Addr} {H H' : Hp} (k : ExtN H H') : KpT p H H' := fun b o _ h n => k b o h n
theorem KpT.trans {p : Addr} {H H1 H2 : Hp} (a : KpT p H H1) (b : KpT p H1 H2) : KpT p H H2 := fun c o n h m => b c o n (a c o n h m) m
theorem pen_ext {p L : Addr} {n : Nat} {H H' : Hp} (h : PenL H p L n) (k : ExtN H H') : PenL H' p L n := by
  obtain ⟨ns, j, r, h1, h2, h3⟩ := h
  exact ⟨ns, j, r, k _ _ h1 (fun _ z => nomatch z), k _ _ h2 (fun _ z => nomatch z), h3⟩
section
variable {r : RC} {p : Addr} {H H' : Hp}
theorem reg_kpt (k : KpT p H H') {xs : List V} (hp : H p = some (.lst xs)) : ∀ {t : Tr} {v : V}, RegAt r H t v → RegAt r H' t v := by
  have ne : ∀ {b : Addr} {o : HO}, H b = some o → (∀ ys, o ≠ .lst ys) → b ≠ p := fun {b o} hb hn e => by
    rw [e, hp] at hb
    exact hn _ (Option.some.inj hb).symm
  intro t
  induction t with
  | leaf z =>
    rintro v ⟨q, dq, l, h1, h2, h3⟩
    exact ⟨q, dq, l, h1, k _ _ (ne h2 fun _ z => nomatch z) h2 (fun _ z => nomatch z), k _ _ (ne h3 fun _ z => nomatch z) h3 (fun _ z => nomatch z)⟩
  | node s a b iha ihb =>
    rintro v ⟨q, dq, x, y, l, ys, h1, h2, h3, h4, h5, h6⟩
    exact ⟨q, dq, x, y, l, ys, h1, k _ _ (ne h2 fun _ z => nomatch z) h2 (fun _ z => nomatch z), iha h3, ihb h4, k _ _ (ne h5 fun _ z => nomatch z) h5 (fun _ z => nomatch z), h6⟩
end
theorem prs_sound {xs : List Str} : ∀ {m i : Nat} {t : Tr} {j : Nat}, prs xs m i = .inr (t, j) → TrN t ∧ j = i + t.items.length ∧ j ≤ xs.length ∧ (xs.drop i).take t.items.length = t.items := by
  have one : ∀ {i : Nat} {z : Str}, xs[i]? = some z → nameB z = true → TrN (.leaf z) ∧ i + 1 = i + (Tr.leaf z).items.length ∧ i + 1 ≤ xs.length ∧ (xs.drop i).take (Tr.leaf z).items.length = (Tr.leaf z).items := fun {i z} h hn => by
    obtain ⟨hi, e⟩ := List.getElem?_eq_some_iff.mp h
    refine ⟨hn, rfl, hi, ?_⟩
    show (xs.drop i).take 1 = [z]
    rw [List.drop_eq_getElem_cons hi, e]
    rfl
  intro m
  induction m with
  | zero =>
    intro i t j h
    cases hz : xs[i]? with
    | none =>
      rw [prs_none hz] at h
      cases h
    | some z =>
      rw [prs_nm hz (by simp)] at h
      split at h
      · cases h
        exact one hz (by assumption)
      · cases h
  | succ m ih =>
    intro i t j h
    cases hz : xs[i]? with
    | none =>
      rw [prs_none hz] at h
      cases h
    | some z =>
      cases hs : sgOf z with
      | none =>
        rw [prs_nm hz (by rw [hs]; rfl)] at h
        split at h
        · cases h
          exact one hz (by assumption)
        · cases h
      | some s =>
        rw [prs_sg hz hs] at h
        cases h1 : prs xs m (i + 1) with
        | inl e =>
          rw [h1] at h
          cases h
        | inr aj =>
          obtain ⟨a, j1⟩ := aj
          rw [h1] at h
          dsimp only at h
          cases h2 : prs xs m j1 with
          | inl e =>
            rw [h2] at h
            cases h
          | inr bk =>
            obtain ⟨b, k⟩ := bk
            rw [h2] at h
            dsimp only at h
            cases h
            obtain ⟨ta, ja, la, ea⟩ := ih h1
            obtain ⟨tb, jb, lb, eb⟩ := ih h2
            obtain ⟨hi, ez⟩ := List.getElem?_eq_some_iff.mp hz
            obtain rfl := sgOf_str hs
            have hlen : (Tr.node s a b).items.length = 1 + a.items.length + b.items.length := by
              show (s.str :: (a.items ++ b.items)).length = _
              rw [List.length_cons, List.length_append]
              omega
            refine ⟨⟨ta, tb⟩, by rw [hlen]; omega, lb, ?_⟩
            rw [hlen, List.drop_eq_getElem_cons hi, ez]
            have e3 : 1 + a.items.length + b.items.length = (a.items.length + b.items.length) + 1 := by omega
            rw [e3, List.take_succ_cons]
            show s.str :: _ = s.str :: (a.items ++ b.items)
            congr 1
            rw [List.take_add, ea, List.drop_drop]
            have e4 : i + 1 + a.items.length = j1 := by omega
            rw [e4, eb]
theorem read_whole {xs : List Str} {t : Tr} {j : Nat} (h : prs xs 2 0 = .inr (t, j)) (hs : stp xs = none) : TrN t ∧ xs = t.items := by
  obtain ⟨h1, h2, h3, h4⟩ := prs_sound h
  refine ⟨h1, ?_⟩
  unfold stp at hs
  rw [h] at hs
  dsimp only at hs
  split at hs
  · cases hs
  · rw [List.drop_zero] at h4
    rw [← h4, List.take_of_length_le (by omega)]
theorem eqTxt {K : PySem.W.Frag} {H : Hp} {p q p2 q2 : Addr} {x y : Int} {Q : VK} (h1 : H q = some (.tup [.int x, .int y])) (h2 : H p = some (.tup [.str "text", .ref q])) (h3 : H q2 = some (.tup [.int x, .int y])) (h4 : H p2 = some (.tup [.str "text", .ref q2])) (k : Q (.bl true) H) : rEqD K (.ref p) (.ref p2) H Q := by
  have lay : PyData.canLay0 (.tuple [.str "text", .tuple [.int x, .int y]]) = true := by
    show (PySem.PyData.strOk "text" && ((true && (true && true)) && true)) = true
    rw [show PySem.PyData.strOk "text" = true from by decide +kernel]
    rfl
  have sh : SeqAt.shaped (.tuple [.str "text", .tuple [.int x, .int y]]) = true := by
    show (PyData.canLay0 (.tuple [.str "text", .tuple [.int x, .int y]]) && decide (PyData.depth (.tuple [.str "text", .tuple [.int x, .int y]]) ≤ 64)) = true
    rw [lay]
    rfl
  refine ⟨_, _, .tup (Evl.st_of h2) (.cons (.str _) (.cons (.tup (Evl.st_of h1) (.cons (.int x) (.cons (.int y) .nil))) .nil)), .tup (Evl.st_of h4) (.cons (.str _) (.cons (.tup (Evl.st_of h3) (.cons (.int x) (.cons (.int y) .nil))) .nil)), sh, sh, ?_⟩
  rw [PySem.SeqAt.eqv_refl _ lay]
  exact k
end K04
namespace K04
open PySem PySem.Spec PyProof.Rows L2 BW LamX
def odds : List Str := ["", "+", "*", "-", "a", "A", "9", "a-", "averylongname", "averylongnam", "|", "a+b"]
theorem odds_ok : ∀ z ∈ odds, z.length ≤ 13 ∧ PySem.PyData.strOk z = true ∧ 32 ∉ z.cps.toList := by decide +kernel
def OddW : Wd := fun v _ => ∃ z, v = .str z ∧ z ∈ odds
theorem mon_oddW : Mon OddW := fun _ _ _ _ h => h
theorem join_len {n : Nat} : ∀ {xs : List Str}, (∀ x ∈ xs, x.length ≤ n) → (Str.join blank xs).length ≤ xs.length * (n + 1)
  | [], _ => Nat.zero_le _
  | [x], h => by
    have := h x List.mem_cons_self
    show x.length ≤ 1 * (n + 1)
    omega
  | x :: y :: r, h => by
    have ih := join_len (xs := y :: r) fun z hz => h z (List.mem_cons_of_mem _ hz)
    have hx := h x List.mem_cons_self
    rw [join_cons x (List.cons_ne_nil y r), str_len, str_len]
    have lb : blank.length = 1 := rfl
    rw [lb, List.length_cons, Nat.add_mul]
    omega
theorem sum_len {n : Nat} : ∀ {xs : List Str}, (∀ x ∈ xs, x.length ≤ n) → (xs.map (·.length)).sum ≤ xs.length * n
  | [], _ => Nat.zero_le _
  | x :: r, h => by
    have ih := sum_len (xs := r) fun z hz => h z (List.mem_cons_of_mem _ hz)
    have hx := h x List.mem_cons_self
    rw [List.map_cons, List.sum_cons, List.length_cons, Nat.add_mul]
    omega
section
variable {P : Program} {w : World} {K : PySem.W.Frag} {mg : Str → Option Value} {base : Heap} {r : RC} {CE CB CT CW g : Addr} {k : Nat} {T : List (Addr × Str)}
def spTextR (T : List (Addr × Str)) : Sp := fun vs H Q _ => ∃ (p L : Addr) (n : Nat) (v : V) (t : Tr), vs = [.ref p, v] ∧ PenL H p L n ∧ n + 3 ≤ 100000 ∧ TreeAt (hide p H) t v ∧ TrN t ∧ t.depth ≤ 2 ∧ Tabs T H ∧
  ∀ H', KpT p H H' → PenL H' p L (n + 3) → Tabs T H' → Q (.bl true) H'
theorem ret_open {σ : L2.St} {H : Hp} {D : Ends} {ta tb : TE} {rr : R2} (h : ta σ H (fun x H1 => tb σ H1 fun y H2 => rr x y H2 D.rt)) : tRet (tOp rr ta tb) D σ H := h
theorem shape_strs {ss : List Str} (h : ∀ z ∈ ss, PySem.PyData.strOk z = true) : SeqAt.shaped (.list (ss.map PyData.str)) = true := shaped_of (lay_strs h) (by rw [deep_strs]; decide)
theorem ev_isNilS {σ : L2.St} {H : Hp} {ta : TE} {l : Addr} {ns : List Str} (h : Evl.Ev ta σ H (.ref l)) (hl : H l = some (.lst (ns.map V.str))) (ok : ∀ z ∈ ns, PySem.PyData.strOk z = true) : Evl.Ev (tOp (rEqD K) ta (tLst tNil)) σ H (.bl ns.isEmpty) :=
  Evl.ev_opL h (Evl.el_lst Evl.ea_nil (by show 0 ≤ 100000; decide)) fun q H1 hq e1 => fun H2 e2 Q k => by
    refine ⟨.list (ns.map .str), .list [], .lst (Evl.sq_of (e2 _ _ (e1 _ _ hl))) (dp_strs ns), .lst (Evl.sq_of (e2 _ _ hq)) .nil, shape_strs ok, rfl, ?_⟩
    have e3 : PyData.eqv (.list (ns.map .str)) (.list []) = ns.isEmpty := by
      cases ns <;> rfl
    rw [e3]
    exact k H2 (Evl.Ex.refl H2)
/-- _law_heard(lambda: Region.read(z)), refused at the item e -/
theorem lam_read {σ : L2.St} {G : Hp} {Q : VK} {z : Str} {e : Nat} (hσ : σ[5]? = some (some (.str z))) (hz : z.length ≤ 1000) (hx : ∀ x ∈ Txt.split z blank, x.length ≤ 1000) (hs : stp (Txt.split z blank) = some e) (hT : Tabs T G)
    (q : ∀ G1 G2 a b, ExtN G G1 → Tabs T G1 → Evl.Ex G1 G2 → G2 b = some (.tup [.int 0, .int (e : Int)]) → G2 a = some (.tup [.str "text", .ref b]) → Q (.ref a) G2) : tLam T (THeard CB CW CT) (fun E => tSMeth g (spRead r CT) E (tC (.ref g)) (tCons (tVar 5) tNil)) σ G Q :=
  ⟨hT, fun G1 e1 T1 => ⟨rfl, .str z, hσ, .str z, rfl, .inl ⟨z, rfl, hz, hx, .inr ⟨e, hs, fun d G2 e2 hd => ⟨d, rfl, .inr (.inr ⟨rfl, .int 0, .int (e : Int), hd, fun G3 a b e3 hb ha => q G1 G3 a b e1 T1 (e2.trans e3) hb ha⟩)⟩⟩⟩⟩⟩
theorem scText : FnScope ["_law_pen_here", "_law_tree_here", "_law_odd", "_law_items", "_law_stop_here", "_law_text"] ["_law_pen_here", "_law_tree_here"] (defScope sText) := ⟨rfl, rfl, rfl, by decide +kernel, rfl, by decide +kernel, by decide +kernel⟩
theorem ok_text {f c Pt gh : Addr} {fd : FuncData} (W : LwK P w K mg base r CB CT CW g k) (ER : Ers P w K mg base CE CB CW CT) (HD : HdF K mg gh) (TB : TabB base mg c Pt) (hT : (Pt, qText) ∈ T) (hu : ∀ q ∈ T, q.1 = Pt → q.2 = qText) (F : FunC K "_law_text_right" sText f fd c) :
    FnOk P w K mg base CX0 (k + 3) f fd ["_law_pen_here", "_law_tree_here"] (spTextR T) := by
  obtain ⟨oc, od, kV, doc, pm, an, ct, osl, rfl, lk, hcd⟩ := F.ex
  refine fn_of lk hcd scText (fun vs H Q E h => ?_) (fun A outer s H vs Q E hr h => ?_)
  · obtain ⟨p, L, n, v, t, rfl, _⟩ := h
    rfl
  · obtain ⟨p, L, n, v, t, rfl, hP, hn, ht, hN, hd, hTab, q⟩ := h
    have nd := scText.nd
    have hr0 := hr.mono (show k ≤ k + 2 by omega)
    obtain ⟨X, TT, G, B, EQ, ST, OV, MK, _, _, _, _, _, _, _, ⟨fS, dS, SA⟩, _, ⟨fP, dP, PK⟩, ⟨fB, dB, BE⟩, ⟨fZ, dZ, SP⟩, ⟨mc, sp, fR, dR, rR, sR, oR, bR⟩⟩ := W
    obtain ⟨oc2, od2, dV2, kV2, doc2, pm2, an2, cdv2, ct2, osl2, lk2, hcd2, bH⟩ := HD.ex
    refine ⟨_, PSs.nox (pss_cons (ps_set (i := 2) nd rfl (.inl rfl) (pe_df PK hr0 (pa_cons (pv 0) (pa_cons (pe_lst (pa_cons pe_str (pa_cons pe_str (pa_cons pe_str (pa_cons pe_str (pa_cons pe_str (pa_cons pe_str (pa_cons pe_str (pa_cons pe_str (pa_cons pe_str (pa_cons pe_str (pa_cons pe_str (pa_cons pe_str pa_nil))))))))))))) pa_nil))))
      (pss_cons (ps_set (i := 3) nd rfl (.inl rfl) (pe_df BE hr0 (pa_cons (pv 0) (pa_cons (pe_split (pe_df SA hr0 (pa_cons (pv 1) pa_nil)) pe_str) (pa_cons (pv 2) pa_nil)))))
      (pss_cons (ps_asg (pe_tup (pa_cons (pe_df SP hr0 (pa_cons (pv 3) pa_nil)) (pa_cons (pe_join pe_str (pv 3)) pa_nil))) (pg_tup (n := 2) rfl (pgs_cons (pg_name (i := 4) nd rfl (.inl rfl)) (pgs_cons (pg_name (i := 5) nd rfl (.inr rfl)) pgs_nil))))
      (pss_cons (ps_if (pt_cmpR (op_eqD hr.units) (pv 3) (pe_lst pa_nil) (nomark _))
        (pss_one (ps_ret (pe_cmpR (op_eqD hr.units) (pe_lamcall (T := T) (TT := THeard CB CW CT) (t := fun E => tSMeth g (spRead r CT) E (tC (.ref g)) (tCons (tVar 5) tNil)) (k := k) rfl HD.gl HD.kp lk2 hcd2 bH scHeard rfl (.inl rfl) (heard_gives X.isi ER) TB rfl hT hu (hr.mono (by omega)) (lamS_by (sc := defScope sText) (by decide +kernel)) rfl (fun _ _ _ _ _ => rfl)
            (fun A outer s H E f c' hr2 => pe_smeth (pe_glob (v := .ref g) (by rfl) B.nm rfl) rR sR oR bR hr2 (passes_call (takes_of rfl rfl rfl rfl) (fun _ _ _ _ h => h)) (pa_cons (pv 5) pa_nil)))
          (pe_tup (pa_cons pe_str (pa_cons (pe_tup (pa_cons pe_int (pa_cons pe_int pa_nil))) pa_nil))) (nomark _)))) pss_nil)
      (pss_cons (ps_if (pt_cmpR op_isN (pv 4) pe_non (nomark _))
        (pss_one (ps_ret (pe_cmpR op_eq (pe_callTy (call_strO (fun C sp h => (ST C sp h).1) hr pass0) (by rfl) X.str (by decide +kernel) (pa_cons (pe_smeth (pe_glob (v := .ref g) (by rfl) B.nm rfl) rR sR oR bR hr0 passL (pa_cons (pv 5) pa_nil)) pa_nil)) (pv 5) (nomark _)))) pss_nil)
      (pss_one (ps_ret (pe_cmpR (op_eqD hr.units) (pe_lamcall (T := T) (TT := THeard CB CW CT) (t := fun E => tSMeth g (spRead r CT) E (tC (.ref g)) (tCons (tVar 5) tNil)) (k := k) rfl HD.gl HD.kp lk2 hcd2 bH scHeard rfl (.inl rfl) (heard_gives X.isi ER) TB rfl hT hu (hr.mono (by omega)) (lamS_by (sc := defScope sText) (by decide +kernel)) rfl (fun _ _ _ _ _ => rfl)
            (fun A outer s H E f c' hr2 => pe_smeth (pe_glob (v := .ref g) (by rfl) B.nm rfl) rR sR oR bR hr2 (passes_call (takes_of rfl rfl rfl rfl) (fun _ _ _ _ h => h)) (pa_cons (pv 5) pa_nil)))
          (pe_tup (pa_cons pe_str (pa_cons (pe_tup (pa_cons pe_int (pa_cons (pv 4) pa_nil))) pa_nil))) (nomark _))))))))), ?_⟩
    have oC : ∀ {σ : L2.St} {H : Hp} (z : Str), z ∈ odds → Evd p L (tC (.str z)) σ H 0 OddW := fun z h => ed_c fun _ => ⟨z, rfl, h⟩
    refine q_asgD (ed_pickC (P := OddW) (N := 12) mon_oddW (i := 0) rfl ⟨by decide, by decide⟩ (ed_lstP mon_oddW (by decide) (eda_cons mon_oddW (oC _ (by decide +kernel)) (eda_cons mon_oddW (oC _ (by decide +kernel)) (eda_cons mon_oddW (oC _ (by decide +kernel)) (eda_cons mon_oddW (oC _ (by decide +kernel)) (eda_cons mon_oddW (oC _ (by decide +kernel)) (eda_cons mon_oddW (oC _ (by decide +kernel))
      (eda_cons mon_oddW (oC _ (by decide +kernel)) (eda_cons mon_oddW (oC _ (by decide +kernel)) (eda_cons mon_oddW (oC _ (by decide +kernel)) (eda_cons mon_oddW (oC _ (by decide +kernel)) (eda_cons mon_oddW (oC _ (by decide +kernel)) (eda_cons mon_oddW (oC _ (by decide +kernel)) eda_nil)))))))))))))) hP (by omega) fun ov H1 k1 p1 ho => ?_
    obtain ⟨odd, rfl, hodd⟩ := ho
    obtain ⟨odl, odk, odb⟩ := odds_ok odd hodd
    have t1 : TreeAt H1 t v := (ht.mono (hide_kp k1)).mono (hide_sub _ _)
    have itl : t.items.length ≤ 7 := by
      have h1 := items_few t
      have h2 : 2 ^ t.depth ≤ 2 ^ 2 := Nat.pow_le_pow_right (by omega) hd
      omega
    -- the items, bent
    refine q_asgX ⟨.ref p, rfl, ?_⟩
    refine ev_said (v := v) rfl t1 hN hd H1 (Evl.Ex.refl _) _ fun H2 e2 => ⟨⟨_, rfl⟩, t.said, blank, rfl, rfl, rfl, Evl.sz_of (by have := said_few hN hd; omega), fun a na => ?_⟩
    rw [split_said hN]
    have ea := Evl.Ex.new (o := .lst (t.items.map V.str)) na
    have p2 := (p1.same e2).same ea
    refine ⟨.str odd, rfl, p, L, a, n + 0 + 1, t.items, odd, rfl, p2, by omega, ((p1.same e2).ne na).1, upd_same, items_ne t, by omega, fun b zs H3 k3 p3 nb hb hz hl => ?_⟩
    have k03 : Kp p H H3 := ((k1.trans (Same.kp e2)).trans (Same.kp ea)).trans k3
    have T3 : Tabs T H3 := tabs_pen hP hTab k03
    have zl : zs.length ≤ 15 := by omega
    have zok : ∀ z ∈ zs, z.length ≤ 13 ∧ PySem.PyData.strOk z = true ∧ 32 ∉ z.cps.toList := fun z h => by
      rcases hz z h with h | rfl
      · have h1 := items_ok hN z h
        exact ⟨by omega, h1.2, items_noblank hN z h⟩
      · exact ⟨odl, odk, odb⟩
    -- where it stops, the text
    refine ⟨.ref b, rfl, b, zs, rfl, Evl.sq_of hb, by omega, fun x hx => ⟨by have := (zok x hx).1; omega, (zok x hx).2.1⟩, fun H4 e4 => ⟨⟨_, rfl⟩, .ref b, rfl, blank, b, zs, rfl, rfl, .inl (Evl.sq_of (e4 _ _ hb)), ?_, (by show 2 ≤ sizeLine; decide), fun u nu => ?_⟩⟩
    · have h1 := sum_len (n := 13) fun x hx => (zok x hx).1
      have lb : blank.length = 1 := rfl
      rw [lb]
      omega
    have e5 := Evl.Ex.new (o := .tup [outO (stp zs), .str (Txt.join blank zs)]) nu
    refine ⟨u, _, rfl, Evl.st_of upd_same, rfl, outO (stp zs), _, rfl, .str (Txt.join blank zs), _, rfl, rfl, ?_⟩
    have e35 := e4.trans e5
    have hb5 := e35 _ _ hb
    have p5 := p3.same e35
    have T5 := T3.ext e35
    have k05 : Kp p H _ := k03.trans (Same.kp e35)
    generalize upd H4 u (.tup [outO (stp zs), .str (Txt.join blank zs)]) = H5 at e35 hb5 p5 T5 k05 ⊢
    have jl : (Txt.join blank zs).length ≤ 210 := by
      rw [txt_join]
      have h1 := join_len (n := 13) fun x hx => (zok x hx).1
      have h2 : zs.length * (13 + 1) ≤ 15 * (13 + 1) := Nat.mul_le_mul_right _ zl
      omega
    have pfin : n + 0 + 1 + 2 = n + 3 := by omega
    rw [pfin] at p5
    have fin : ∀ {G1 G2 : Hp}, Evl.Ex H5 G1 → ExtN G1 G2 → Tabs T G2 → ∀ {G3 : Hp}, Evl.Ex G2 G3 → Q (.bl true) G3 := fun {G1 G2} a1 a2 a3 {G3} a4 => q G3 (((KpT.of (k05.trans (Same.kp a1))).trans (KpT.ofN a2)).trans (KpT.of (Same.kp a4))) ((pen_ext (p5.same a1) a2).same a4) (a3.ext a4)
    have ok : ∀ z ∈ zs, PySem.PyData.strOk z = true := fun z h => (zok z h).2.1
    refine Evl.q_when (b := zs.isEmpty) (Evl.et_test (ev_isNilS (Evl.ev_var rfl) hb5 ok)) (fun he H6 e6 => ?_) (fun he H6 e6 => ?_)
    · have e0 : zs = [] := List.isEmpty_iff.mp he
      subst e0
      refine ret_open (lam_read (e := 0) rfl (by omega) ?_ ?_ (T5.ext e6) fun G1 G2 a' b' x1 x2 x3 hb' ha' => ?_)
      · rw [split_nil]
        intro x hx
        rw [List.mem_singleton.mp hx]
        decide
      · rw [split_nil]
        decide +kernel
      · refine ⟨(by show 2 ≤ sizeLine; decide), fun q2 n2 => ⟨(by show 2 ≤ sizeLine; decide), fun q3 n3 => ?_⟩⟩
        have y1 := Evl.Ex.new (o := .tup [V.int 0, V.int 0]) n2
        have y2 := Evl.Ex.new (o := .tup [V.str "text", V.ref q2]) n3
        exact eqTxt (x := 0) (y := 0) (y2 _ _ (y1 _ _ hb')) (y2 _ _ (y1 _ _ ha')) (y2 _ _ upd_same) upd_same (fin e6 x1 x2 ((x3.trans y1).trans y2))
    · have ne : zs ≠ [] := fun e => by
        rw [e] at he
        cases he
      have sj : Txt.split (Txt.join blank zs) blank = zs := split_join ne fun x hx => (zok x hx).2.2
      have pc : ∀ x ∈ Txt.split (Txt.join blank zs) blank, x.length ≤ 1000 := fun x hx => by
        rw [sj] at hx
        have := (zok x hx).1
        omega
      cases hs : stp zs with
      | none =>
        refine Evl.q_when (b := true) (Evl.et_is (Evl.et_test (Evl.ev_op (z := .bl (decide (V.non = V.non))) (Evl.ev_var rfl) Evl.ev_c fun H _ Q q => ⟨rfl, q H (Evl.Ex.refl H)⟩)) rfl) (fun _ H7 e7 => ?_) (fun z => nomatch z)
        cases hp : prs zs 2 0 with
        | inl e =>
          unfold stp at hs
          rw [hp] at hs
          cases hs
        | inr tj =>
          obtain ⟨t', j⟩ := tj
          obtain ⟨hN', hz'⟩ := read_whole hp hs
          have hd' := prs_depth hp
          refine ret_open ⟨rfl, .str (Txt.join blank zs), rfl, .str (Txt.join blank zs), rfl, .inl ⟨_, rfl, by omega, pc, .inl ⟨t', j, by rw [sj]; exact hp, by rw [sj]; exact hs, fun x H8 e8 hx => ?_⟩⟩⟩
          obtain ⟨px, dx, fs, rfl, S⟩ := hx.see
          refine ⟨_, rfl, px, _, dx, fs, _, rfl, S.at_, ⟨isRg_at r t', rfl⟩, .ref px, t', rfl, hx, rfl, hd', hd', short_of hN', fun H9 e9 => ⟨t'.said, rfl, .str (Txt.join blank zs), rfl, rfl, ?_⟩⟩
          have es : V.str t'.said = V.str (Txt.join blank zs) := by rw [said_join, hz']
          rw [decide_eq_true es]
          exact fin (Evl.Ex.refl _) (ExtN.of ((e6.trans e7).trans (e8.trans e9))) (T5.ext ((e6.trans e7).trans (e8.trans e9))) (Evl.Ex.refl _)
      | some e =>
        refine Evl.q_when (b := false) (Evl.et_is (Evl.et_test (Evl.ev_op (z := .bl (decide (V.int (e : Int) = V.non))) (Evl.ev_var rfl) Evl.ev_c fun H _ Q q => ⟨rfl, q H (Evl.Ex.refl H)⟩)) rfl) (fun z => nomatch z) (fun _ H7 e7 => ?_)
        refine ret_open (lam_read (e := e) rfl (by omega) pc (by rw [sj]; exact hs) ((T5.ext e6).ext e7) fun G1 G2 a' b' x1 x2 x3 hb' ha' => ?_)
        refine ⟨.int (e : Int), rfl, (by show 2 ≤ sizeLine; decide), fun q2 n2 => ⟨(by show 2 ≤ sizeLine; decide), fun q3 n3 => ?_⟩⟩
        have y1 := Evl.Ex.new (o := .tup [V.int 0, V.int (e : Int)]) n2
        have y2 := Evl.Ex.new (o := .tup [V.str "text", V.ref q2]) n3
        exact eqTxt (x := 0) (y := (e : Int)) (y2 _ _ (y1 _ _ hb')) (y2 _ _ (y1 _ _ ha')) (y2 _ _ upd_same) upd_same (fin (e6.trans e7) x1 x2 ((x3.trans y1).trans y2))
end
end K04
namespace K04
open PySem PySem.Spec PyProof.Rows L2 BW LamX
section
variable {r : RC} {H H' : Hp}
theorem knd_extN {G G' : Hp} {v : V} {T : String} (e : ExtN G G') (k : Knd G v T) : Knd G' v T := by
  cases k with
  | non => exact .non
  | bl b => exact .bl b
  | int i => exact .int i
  | str h => exact .str h
  | lst h => exact .lst (e _ _ h fun ps z => nomatch z)
  | tup h => exact .tup (e _ _ h fun ps z => nomatch z)
  | dict h => exact .dict (e _ _ h fun ps z => nomatch z)
theorem elm_extN {G G' : Hp} {v : V} (e : ExtN G G') (k : Elm G v) : Elm G' v := by
  cases k with
  | non => exact .non
  | bl b => exact .bl b
  | int i => exact .int i
  | str h ok => exact .str h ok
  | lst h ok => exact .lst (e _ _ h fun ps z => nomatch z) ok
  | tup h ok => exact .tup (e _ _ h fun ps z => nomatch z) ok
theorem seen_extN {G G' : Hp} {v : V} {o : Option (List V)} (e : ExtN G G') (k : Seen G v o) : Seen G' v o := by
  cases k with
  | flat k h1 h2 => exact .flat (knd_extN e k) h1 h2
  | lst h hl hx => exact .lst (e _ _ h fun ps z => nomatch z) hl fun x m => elm_extN e (hx x m)
  | tup h hl hx => exact .tup (e _ _ h fun ps z => nomatch z) hl fun x m => elm_extN e (hx x m)
theorem reg_extN (k : ExtN H H') : ∀ {t : Tr} {v : V}, RegAt r H t v → RegAt r H' t v := by
  intro t
  induction t with
  | leaf z =>
    rintro v ⟨q, dq, l, h1, h2, h3⟩
    exact ⟨q, dq, l, h1, k _ _ h2 (fun _ z => nomatch z), k _ _ h3 (fun _ z => nomatch z)⟩
  | node s a b iha ihb =>
    rintro v ⟨q, dq, x, y, l, ys, h1, h2, h3, h4, h5, h6⟩
    exact ⟨q, dq, x, y, l, ys, h1, k _ _ h2 (fun _ z => nomatch z), iha h3, ihb h4, k _ _ h5 (fun _ z => nomatch z), h6⟩
theorem rval_extN {v : V} {o : Option Tr} (k : ExtN H H') (h : RVal r H v o) : RVal r H' v o := by
  cases h with
  | reg h => exact .reg (reg_extN k h)
  | odd h => exact .odd (knd_extN k h)
/-- beside the pen, all but the tables stays -/
theorem hide_kpt {p : Addr} (k : KpT p H H') : ExtN (hide p H) (hide p H') := fun b o h n => by
  have nb := hide_ne h
  exact hide_at nb (k b o nb (hide_sub p H _ _ h) n)
end
section
variable {K : PySem.W.Frag} {r : RC} {CB CT CW g : Addr} {T : List (Addr × Str)} {σ : L2.St} {G : Hp} {Q : VK}
theorem out_reg {v : V} (q : ∀ G2 a, Evl.Ex G G2 → G2 a = some (.tup [.str "region", v]) → Q (.ref a) G2) : Raised CB "part" v G (OutE CB CW CT Q) := fun d G2 e hd => ⟨d, rfl, .inl ⟨rfl, v, hd, fun G3 a e3 ha => q G3 a (e.trans e3) ha⟩⟩
theorem out_wor {v : V} (q : ∀ G2 a, Evl.Ex G G2 → G2 a = some (.tup [.str "world", v]) → Q (.ref a) G2) : Raised CW "part" v G (OutE CB CW CT Q) := fun d G2 e hd => ⟨d, rfl, .inr (.inl ⟨rfl, v, hd, fun G3 a e3 ha => q G3 a (e.trans e3) ha⟩)⟩
theorem out_txt {x y : V} (q : ∀ G2 a b, Evl.Ex G G2 → G2 b = some (.tup [x, y]) → G2 a = some (.tup [.str "text", .ref b]) → Q (.ref a) G2) : Raised2 CT "line" "item" x y G (OutE CB CW CT Q) := fun d G2 e hd => ⟨d, rfl, .inr (.inr ⟨rfl, x, y, hd, fun G3 a b e3 hb ha => q G3 a b (e.trans e3) hb ha⟩)⟩
theorem knd_len {v : V} {U : String} (k : Knd G v U) : ∀ z, v = .str z → z.length ≤ 1000 := fun z h => by
  subst h
  cases k with
  | str h => exact h
theorem lam_open {t : XK → TE} (hT : Tabs T G) (h : ∀ G1, ExtN G G1 → Tabs T G1 → t (OutE CB CW CT Q) σ G1 (fun _ H1 => Q .non H1)) : tLam T (THeard CB CW CT) t σ G Q := ⟨hT, h⟩
theorem lam_land {i : Nat} {v : V} {U : String} (hσ : σ[i]? = some (some v)) (hn : isName v = false) (kd : Knd G v U) (hT : Tabs T G) (q : ∀ G2 a, ExtN G G2 → Tabs T G2 → G2 a = some (.tup [.str "region", .str "name"]) → Q (.ref a) G2) :
    tLam T (THeard CB CW CT) (fun E => tMake r.L (spMkL r CB) [] E (tCons (tVar i) tNil)) σ G Q :=
  lam_open hT fun G1 e1 T1 => rd_mkL (Evl.ea_cons (Evl.ev_var hσ) Evl.ea_nil) (.inr ⟨hn, ⟨U, knd_extN e1 kd⟩, out_reg fun G2 a e2 ha => q G2 a (e1.trans (ExtN.of e2)) (T1.ext e2) ha⟩) (knd_len kd)
theorem lam_landK {i : Nat} {v : V} {U : String} (hσ : σ[i]? = some (some v)) (hn : isName v = false) (kd : Knd G v U) (hT : Tabs T G) (q : ∀ G2 a, ExtN G G2 → Tabs T G2 → G2 a = some (.tup [.str "region", .str "name"]) → Q (.ref a) G2) :
    tLam T (THeard CB CW CT) (fun E => tMakeK r.L 0 1 (spMkL r CB) (fun vs zs => vs ++ zs) E tNil (tCons (tVar i) tNil)) σ G Q :=
  lam_open hT fun G1 e1 T1 => rd_mkLK (Evl.ea_cons (Evl.ev_var hσ) Evl.ea_nil) (.inr ⟨hn, ⟨U, knd_extN e1 kd⟩, out_reg fun G2 a e2 ha => q G2 a (e1.trans (ExtN.of e2)) (T1.ext e2) ha⟩) (knd_len kd)
theorem lam_over {i j : Nat} {x c : V} {t : Tr} {o : Option (List V)} (h1 : σ[i]? = some (some x)) (h2 : σ[j]? = some (some c)) (hx : RegAt r G t x) (hd : t.depth ≤ 2) (sn : Seen G c o) (ho : cellO o = false) (hT : Tabs T G) (q : ∀ G2 a, ExtN G G2 → Tabs T G2 → G2 a = some (.tup [.str "world", .str "cell"]) → Q (.ref a) G2) :
    tLam T (THeard CB CW CT) (fun E => tMethD (ROver r CW) "is_over" E (tVar i) (tCons (tVar j) tNil)) σ G Q := ⟨hT, fun G1 e1 T1 => by
  have hx1 := reg_extN e1 hx
  obtain ⟨p, dx, fs, rfl, S⟩ := hx1.see
  exact ⟨.ref p, h1, p, _, dx, fs, _, rfl, S.at_, S.ovr, ⟨isRg_at r t, rfl⟩, c, h2, .ref p, c, t, o, rfl, hx1, rfl, hd, seen_extN e1 sn, .inr ⟨ho, out_wor fun G2 a e2 ha => q G2 a (e1.trans (ExtN.of e2)) (T1.ext e2) ha⟩⟩⟩
theorem lam_mk {sg : Sg} {i j : Nat} {x y : V} {o o2 : Option Tr} {nm : Str} (h1 : σ[i]? = some (some x)) (h2 : σ[j]? = some (some y)) (hx : RVal r G x o) (hy : RVal r G y o2) (dx : ∀ t, o = some t → t.depth ≤ 2) (dy : ∀ t, o2 = some t → t.depth ≤ 2) (why : ∀ G1 Q' E, Raised CB "part" (.str nm) G1 E → MkM r CB sg o o2 G1 Q' E) (hT : Tabs T G)
    (q : ∀ G2 a, ExtN G G2 → Tabs T G2 → G2 a = some (.tup [.str "region", .str nm]) → Q (.ref a) G2) : tLam T (THeard CB CW CT) (fun E => tMake (r.of sg) (spMkM r CB sg) [] E (tCons (tVar i) (tCons (tVar j) tNil))) σ G Q :=
  lam_open hT fun G1 e1 T1 => rd_mkM (Evl.ea_cons (Evl.ev_var h1) (Evl.ea_cons (Evl.ev_var h2) Evl.ea_nil)) (rval_extN e1 hx) (rval_extN e1 hy) dx dy (why _ _ _ (out_reg fun G2 a e2 ha => q G2 a (e1.trans (ExtN.of e2)) (T1.ext e2) ha))
theorem lam_mkR {sg : Sg} {i j : Nat} {x y : V} {o o2 : Option Tr} {nm : Str} (h1 : σ[i]? = some (some y)) (h2 : σ[j]? = some (some x)) (hx : RVal r G x o) (hy : RVal r G y o2) (dx : ∀ t, o = some t → t.depth ≤ 2) (dy : ∀ t, o2 = some t → t.depth ≤ 2) (why : ∀ G1 Q' E, Raised CB "part" (.str nm) G1 E → MkM r CB sg o o2 G1 Q' E) (hT : Tabs T G)
    (q : ∀ G2 a, ExtN G G2 → Tabs T G2 → G2 a = some (.tup [.str "region", .str nm]) → Q (.ref a) G2) : tLam T (THeard CB CW CT) (fun E => tMakeK (r.of sg) 0 2 (spMkM r CB sg) (fun vs zs => vs ++ zs.reverse) E tNil (tCons (tVar i) (tCons (tVar j) tNil))) σ G Q :=
  lam_open hT fun G1 e1 T1 => rd_mkMR (Evl.ea_cons (Evl.ev_var h1) (Evl.ea_cons (Evl.ev_var h2) Evl.ea_nil)) (rval_extN e1 hx) (rval_extN e1 hy) dx dy (why _ _ _ (out_reg fun G2 a e2 ha => q G2 a (e1.trans (ExtN.of e2)) (T1.ext e2) ha))
def TxtOdd (r : RC) : Wd := fun v G => isS v = false ∧ ∃ o, RVal r G v o
theorem mon_txtOdd : Mon (TxtOdd r) := fun v H H' e h => ⟨h.1, let ⟨o, k⟩ := h.2; ⟨o, k.mono e⟩⟩
theorem lam_readP {p L : Addr} {n : Nat} {x : V} {t : Tr} (h0 : σ[0]? = some (some (.ref p))) (h5 : σ[5]? = some (some x)) (hx : RegAt r (hide p G) t x) (pn : PenL G p L n) (hn : n + 1 ≤ 100000) (hT : Tabs T G)
    (q : ∀ G2 a b, KpT p G G2 → Tabs T G2 → G2 b = some (.tup [.int 0, .int 0]) → G2 a = some (.tup [.str "text", .ref b]) → Q (.ref a) G2) :
    tLam T (THeard CB CW CT) (fun E => tSMeth g (spRead r CT) E (tC (.ref g)) (tCons (tCall spPick [] E0 (tCons (tVar 0) (tCons (tLst (tCons (tC .non) (tCons (tC (.int 5)) (tCons (tLst (tCons (tC (.str "a")) tNil)) (tCons (tVar 5) tNil))))) tNil))) tNil)) σ G Q := ⟨hT, fun G1 e1 T1 => by
  have pn1 := pen_ext pn e1
  have hx1 : RegAt r (hide p G1) t x := reg_extN (hide_kpt (KpT.ofN e1)) hx
  have hs : isS x = false := by
    obtain ⟨p', dx, fs, rfl, _⟩ := hx1.see
    rfl
  refine ⟨rfl, ed_pickC (P := TxtOdd r) (N := 4) mon_txtOdd (i := 0) h0 ⟨by decide, by decide⟩ (ed_lstP mon_txtOdd (by decide) (eda_cons mon_txtOdd (ed_c fun _ => ⟨rfl, none, .odd .non⟩) (eda_cons mon_txtOdd (ed_c fun _ => ⟨rfl, none, .odd (.int _)⟩)
    (eda_cons mon_txtOdd (Evd.imp (ed_lstP (N := 1) (P := fun v _ => v = .str "a") (fun _ _ _ _ h => h) (by decide) (eda_cons (fun _ _ _ _ h => h) (ed_c fun _ => rfl) eda_nil)) fun v G h => ?_) (eda_cons mon_txtOdd (show Evd p L (tVar 5) σ G1 0 (TxtOdd r) from fun H2 k2 n2 pn2 hn2 Q2 q2 => ⟨x, h5, q2 x H2 (Kp.refl _ _) pn2 ⟨hs, some t, .reg (hx1.mono (hide_kp k2))⟩⟩) eda_nil))))) G1 (Kp.refl _ _) n pn1 (by omega) _ fun v G2 k2 p2 hv => ?_⟩
  · obtain ⟨b, vs, rfl, hb, _⟩ := h
    exact ⟨rfl, none, .odd (.lst hb)⟩
  · obtain ⟨hs2, o, ho⟩ := hv
    exact ⟨v, rfl, .inr ⟨hs2, ⟨o, ho.mono (hide_sub _ _)⟩, out_txt fun G3 a b e3 hb ha => q G3 a b ((KpT.ofN e1).trans (KpT.of (k2.trans (Same.kp e3)))) ((tabs_pen pn1 T1 k2).ext e3) hb ha⟩⟩⟩
theorem lst4_open {D : Ends} {ta tb tc td : TE} {tz : TS} {i : Nat} (h : ta σ G (fun x1 H1 => tb σ H1 fun x2 H2 => tc σ H2 fun x3 H3 => td σ H3 fun x4 H4 => [x1, x2, x3, x4].length ≤ sizeLine ∧ ∀ l, H4 l = none → tz D (σ.set i (some (.ref l))) (upd H4 l (.lst [x1, x2, x3, x4])))) :
    tSeq (tAsg (tLst (tCons ta (tCons tb (tCons tc (tCons td tNil))))) (gName i)) tz D σ G := h
theorem lst9_open {D : Ends} {t1 t2 t3 t4 t5 t6 t7 t8 t9 : TE} {tz : TS} {i : Nat} (h : t1 σ G (fun x1 H1 => t2 σ H1 fun x2 H2 => t3 σ H2 fun x3 H3 => t4 σ H3 fun x4 H4 => t5 σ H4 fun x5 H5 => t6 σ H5 fun x6 H6 => t7 σ H6 fun x7 H7 => t8 σ H7 fun x8 H8 => t9 σ H8 fun x9 H9 => [x1, x2, x3, x4, x5, x6, x7, x8, x9].length ≤ sizeLine ∧ ∀ l, H9 l = none → tz D (σ.set i (some (.ref l))) (upd H9 l (.lst [x1, x2, x3, x4, x5, x6, x7, x8, x9])))) :
    tSeq (tAsg (tLst (tCons t1 (tCons t2 (tCons t3 (tCons t4 (tCons t5 (tCons t6 (tCons t7 (tCons t8 (tCons t9 tNil)))))))))) (gName i)) tz D σ G := h
/-- a new list of three new pairs of texts -/
theorem lst3_tups {a1 b1 a2 b2 a3 b3 : V} {Q : VK} (q : ∀ l q1 q2 q3 H2, Evl.Ex G H2 → H2 l = some (.lst [.ref q1, .ref q2, .ref q3]) → H2 q1 = some (.tup [a1, b1]) → H2 q2 = some (.tup [a2, b2]) → H2 q3 = some (.tup [a3, b3]) → Q (.ref l) H2) :
    tLst (tCons (tTup (tCons (tC a1) (tCons (tC b1) tNil))) (tCons (tTup (tCons (tC a2) (tCons (tC b2) tNil))) (tCons (tTup (tCons (tC a3) (tCons (tC b3) tNil))) tNil))) σ G Q := by
  refine ⟨(by show 2 ≤ sizeLine; decide), fun q1 n1 => ⟨(by show 2 ≤ sizeLine; decide), fun q2 n2 => ⟨(by show 2 ≤ sizeLine; decide), fun q3 n3 => ⟨(by show 3 ≤ sizeLine; decide), fun l nl => ?_⟩⟩⟩⟩
  have e1 := Evl.Ex.new (o := .tup [a1, b1]) n1
  have e2 := Evl.Ex.new (o := .tup [a2, b2]) n2
  have e3 := Evl.Ex.new (o := .tup [a3, b3]) n3
  have e4 := Evl.Ex.new (o := .lst [.ref q1, .ref q2, .ref q3]) nl
  exact q l q1 q2 q3 _ (((e1.trans e2).trans e3).trans e4) upd_same (e4 _ _ (e3 _ _ (e2 _ _ upd_same))) (e4 _ _ (e3 _ _ upd_same)) (e4 _ _ upd_same)
end
end K04
namespace K04
open PySem PySem.Spec PyProof.Rows L2 BW LamX
section
variable {P : Program} {w : World} {K : PySem.W.Frag} {mg : Str → Option Value} {base : Heap} {r : RC} {CE CB CT CW g : Addr} {k : Nat} {T : List (Addr × Str)}
def OddN : Wd := fun v G => isName v = false ∧ ∃ U, Knd G v U
theorem mon_oddN : Mon OddN := fun _ _ _ e h => ⟨h.1, let ⟨U, k⟩ := h.2; ⟨U, k.mono e⟩⟩
def BadN : Wd := fun v G => ∃ U, Knd G v U
theorem mon_badN : Mon BadN := fun _ _ _ e ⟨U, k⟩ => ⟨U, k.mono e⟩
def CellN : Wd := fun v G => ∃ o, Seen G v o ∧ cellO o = false
theorem mon_cellN : Mon CellN := fun _ _ _ e ⟨o, k, h⟩ => ⟨o, k.mono e, h⟩
theorem asg2_open {K : PySem.W.Frag} {σ : L2.St} {G : Hp} {D : Ends} {ta tb : TE} {tz : TS} {i j : Nat} (h : ta σ G (fun x H1 => tb σ H1 fun y H2 => [x, y].length ≤ sizeLine ∧ ∀ u, H2 u = none → gTup K 2 (gCons (gName i) (gCons (gName j) gNil)) (.ref u) σ (upd H2 u (.tup [x, y])) (tz D))) :
    tSeq (tAsg (tTup (tCons ta (tCons tb tNil))) (gTup K 2 (gCons (gName i) (gCons (gName j) gNil)))) tz D σ G := h
theorem ed_strs {p L : Addr} {σ : L2.St} {H : Hp} {te : TE} {xs : List V} (h : ∀ H1, Evl.EvL te σ H1 xs) : Evd p L te σ H 0 (fun v G => ∃ a, v = .ref a ∧ G a = some (.lst xs)) := fun H1 k n pn hn Q q =>
  h H1 H1 (Evl.Ex.refl H1) _ fun a H2 na e ha => q _ H2 (Same.kp e) (pn.same e) ⟨a, rfl, hide_at (pn.ne na).1 ha⟩
theorem rep_open {σ : L2.St} {G : Hp} {Q : VK} {ta tb : TE} (h : ta σ G (fun x H1 => rRep x (.int 2) H1 fun y H2 => tb σ H2 fun z H3 => rCat y z H3 Q)) : tOp rCat (tOp rRep ta (tC (.int 2))) tb σ G Q := h
def spRefR (T : List (Addr × Str)) : Sp := fun vs H Q _ => ∃ (p L a : Addr) (n m : Nat) (ns : List Str), vs = [.ref p, .ref a] ∧ PenL H p L n ∧ n + 5 ≤ 100000 ∧ 1 ≤ m ∧ a ≠ p ∧ H a = some (.lst (ns.map V.str)) ∧ Nms ns m ∧ m ≤ 5 ∧ Tabs T H ∧ ∀ H', Q (.bl true) H'
theorem scRef : FnScope ["_law_pen_here", "_law_names_here", "_law_heard_here", "_law_bad", "_law_cell", "_law_land", "_law_odd", "_law_wide"] ["_law_pen_here", "_law_names_here"] (defScope sRef) := ⟨rfl, rfl, rfl, by decide +kernel, rfl, by decide +kernel, by decide +kernel⟩
theorem ok_ref {f c Pt gh : Addr} {fd : FuncData} (W : LwK P w K mg base r CB CT CW g k) (ER : Ers P w K mg base CE CB CW CT) (HD : HdF K mg gh) (TB : TabB base mg c Pt) (hT : (Pt, qRef) ∈ T) (hu : ∀ q ∈ T, q.1 = Pt → q.2 = qRef) (F : FunC K "_law_refused_right" sRef f fd c) :
    FnOk P w K mg base CX0 (k + 4) f fd ["_law_pen_here", "_law_names_here"] (spRefR T) := by
  obtain ⟨oc, od, kV, doc, pm, an, ct, osl, rfl, lk, hcd⟩ := F.ex
  refine fn_of lk hcd scRef (fun vs H Q E h => ?_) (fun A outer s H vs Q E hr h => ?_)
  · obtain ⟨p, L, a, n, m, ns, rfl, _⟩ := h
    rfl
  · obtain ⟨p, L, a, n, m, ns, rfl, hP, hn, hm1, na, ha, hns, hm5, hTab, q⟩ := h
    have nd := scRef.nd
    have hr0 := hr.mono (show k ≤ k + 3 by omega)
    have hr1 := hr.mono (show k + 1 ≤ k + 3 by omega)
    obtain ⟨X, TT, G, B, EQ, ST, OV, MK, ⟨fL, dL, mL, oL, kL⟩, KM, ⟨fM, dM, M⟩, _, _, _, _, _, _, ⟨fP, dP, PK⟩, _, _, ⟨mc, sp, fR, dR, rR, sR, oR, bR⟩⟩ := W
    obtain ⟨fL', dL', mL', oL', bL'⟩ := MK.L
    obtain ⟨f3, d3, m3, o3, _, k3⟩ := KM .minus
    obtain ⟨g1, e1, n1, p1, b1⟩ := MK.M .plus
    obtain ⟨g2, e2, n2, p2, b2⟩ := MK.M .star
    obtain ⟨g3, e3, n3, p3, b3⟩ := MK.M .minus
    have OM : ∀ C sp, ROver r CW C sp → Md P w K mg base (L2.CX P w) k "is_over" C sp := fun C sp h => (OV C sp h).1
    obtain ⟨oc2, od2, dV2, kV2, doc2, pm2, an2, cdv2, ct2, osl2, lk2, hcd2, bH⟩ := HD.ex
    refine ⟨_, PSs.nox (pss_cons (ps_set (i := 6) nd rfl (.inr rfl) (pe_df PK hr0 (pa_cons (pv 0) (pa_cons (pe_lst (pa_cons pe_non (pa_cons pe_int (pa_cons pe_str (pa_cons pe_str (pa_cons pe_str (pa_cons pe_str (pa_cons pe_str (pa_cons (pe_lst (pa_cons pe_str pa_nil)) (pa_cons pe_bl (pa_cons pe_str (pa_cons (pe_tup pa_nil) pa_nil)))))))))))) pa_nil))))
      (pss_cons (ps_asg (pe_tup (pa_cons (pe_df PK hr0 (pa_cons (pv 0) (pa_cons (pe_lst (pa_cons pe_non (pa_cons (pe_ix ix_list (pv 1) pe_int (fun _ _ => rfl)) (pa_cons pe_int (pa_cons (pe_lst pa_nil) (pa_cons (pe_lst (pa_cons pe_str pa_nil)) (pa_cons pe_dnewK pa_nil))))))) pa_nil))) (pa_cons (pe_df PK hr0 (pa_cons (pv 0) (pa_cons (pe_lst (pa_cons pe_non (pa_cons pe_str (pa_cons (pe_lst (pa_cons pe_str (pa_cons pe_str pa_nil))) (pa_cons (pe_lst (pa_cons pe_str (pa_cons pe_str pa_nil))) (pa_cons (pe_lst (pa_cons pe_int pa_nil)) (pa_cons (pe_lst (pa_cons (pe_lst (pa_cons pe_str pa_nil)) pa_nil)) (pa_cons pe_dnewK (pa_cons (pe_lst (pa_cons pe_str (pa_cons pe_str pa_nil))) pa_nil))))))))) pa_nil))) pa_nil))) (pg_tup (n := 2) rfl (pgs_cons (pg_name (i := 3) nd rfl (.inr rfl)) (pgs_cons (pg_name (i := 4) nd rfl (.inr rfl)) pgs_nil))))
      (pss_cons (ps_asg (pe_tup (pa_cons (pe_make mL' oL' hr1 (by rfl) G.gL bL' .nil passL (pa_cons (pe_ix ix_list (pv 1) pe_int (fun _ _ => rfl)) pa_nil)) (pa_cons (pe_df M hr0 (pa_cons (pe_tup (pa_cons (pe_df PK hr0 (pa_cons (pv 0) (pa_cons (pe_lst (pa_cons pe_str (pa_cons pe_str (pa_cons pe_str pa_nil)))) pa_nil))) (pa_cons (pe_tup (pa_cons pe_str (pa_cons (pe_ix ix_list (pv 1) pe_int (fun _ _ => rfl)) (pa_cons (pe_ix ix_list (pv 1) (pe_un un_neg pe_int) (fun _ _ => rfl)) pa_nil)))) (pa_cons (pe_ix ix_list (pv 1) pe_int (fun _ _ => rfl)) pa_nil)))) pa_nil)) pa_nil))) (pg_tup (n := 2) rfl (pgs_cons (pg_name (i := 5) nd rfl (.inr rfl)) (pgs_cons (pg_name (i := 7) nd rfl (.inr rfl)) pgs_nil))))
      (pss_cons (ps_set (i := 2) nd rfl (.inl rfl) (pe_lst (pa_cons (pe_lamcall (T := T) (TT := THeard CB CW CT) (t := fun E => tMake r.L (spMkL r CB) [] E (tCons (tVar 6) tNil)) (k := k + 1) rfl HD.gl HD.kp lk2 hcd2 bH scHeard rfl (.inl rfl) (heard_gives X.isi ER) TB rfl hT hu (hr.mono (by omega)) (lamS_by (sc := defScope sRef) (by decide +kernel)) rfl (fun _ _ _ _ _ => rfl)
            (fun A outer s H E f c' hr2 => pe_make mL' oL' hr2 (by rfl) G.gL bL' .nil (passes_call (takes_of rfl rfl rfl rfl) (fun _ _ _ _ h => h)) (pa_cons (pv 6) pa_nil))) (pa_cons (pe_lamcall (T := T) (TT := THeard CB CW CT) (t := fun E => tMakeK r.L 0 1 (spMkL r CB) (fun vs zs => vs ++ zs) E tNil (tCons (tVar 6) tNil)) (k := k + 1) rfl HD.gl HD.kp lk2 hcd2 bH scHeard rfl (.inl rfl) (heard_gives X.isi ER) TB rfl hT hu (hr.mono (by omega)) (lamS_by (sc := defScope sRef) (by decide +kernel)) rfl (fun _ _ _ _ _ => rfl)
            (fun A outer s H E f c' hr2 => pe_makeK0 (ks := ["name"]) mL oL hr2 (by rfl) G.gL kL (passes_call (takes_of rfl rfl rfl rfl) (fun _ _ _ _ h => h)) (pk_cons (pv 6) pk_nil))) (pa_cons (pe_lamcall (T := T) (TT := THeard CB CW CT) (t := fun E => tMethD (ROver r CW) "is_over" E (tVar 7) (tCons (tVar 4) tNil)) (k := k + 1) rfl HD.gl HD.kp lk2 hcd2 bH scHeard rfl (.inl rfl) (heard_gives X.isi ER) TB rfl hT hu (hr.mono (by omega)) (lamS_by (sc := defScope sRef) (by decide +kernel)) rfl (fun _ _ _ _ _ => rfl)
            (fun A outer s H E f c' hr2 => pe_methD (pv 7) OM (hr2.mono (by omega)) (passes_call (takes_of rfl rfl rfl rfl) (fun _ _ _ _ h => h)) (pa_cons (pv 4) pa_nil))) (pa_cons (pe_lamcall (T := T) (TT := THeard CB CW CT) (t := fun E => tSMeth g (spRead r CT) E (tC (.ref g)) (tCons (tCall spPick [] E0 (tCons (tVar 0) (tCons (tLst (tCons (tC .non) (tCons (tC (.int 5)) (tCons (tLst (tCons (tC (.str "a")) tNil)) (tCons (tVar 5) tNil))))) tNil))) tNil)) (k := k + 1) rfl HD.gl HD.kp lk2 hcd2 bH scHeard rfl (.inl rfl) (heard_gives X.isi ER) TB rfl hT hu (hr.mono (by omega)) (lamS_by (sc := defScope sRef) (by decide +kernel)) rfl (fun _ _ _ _ _ => rfl)
            (fun A outer s H E f c' hr2 => pe_smeth (pe_glob (v := .ref g) (by rfl) B.nm rfl) rR sR oR bR (hr2.mono (by omega)) (passes_call (takes_of rfl rfl rfl rfl) (fun _ _ _ _ h => h)) (pa_cons (pe_df PK (hr2.mono (by omega)) (pa_cons (pv 0) (pa_cons (pe_lst (pa_cons pe_non (pa_cons pe_int (pa_cons (pe_lst (pa_cons pe_str pa_nil)) (pa_cons (pv 5) pa_nil))))) pa_nil))) pa_nil))) pa_nil))))))
      (pss_cons (ps_if (pt_cmpR (op_neD hr.units) (pv 2) (pe_lst (pa_cons (pe_tup (pa_cons pe_str (pa_cons pe_str pa_nil))) (pa_cons (pe_tup (pa_cons pe_str (pa_cons pe_str pa_nil))) (pa_cons (pe_tup (pa_cons pe_str (pa_cons pe_str pa_nil))) (pa_cons (pe_tup (pa_cons pe_str (pa_cons (pe_tup (pa_cons pe_int (pa_cons pe_int pa_nil))) pa_nil))) pa_nil))))) (nomark _)) (pss_one (ps_ret pe_bl)) pss_nil)
      (pss_cons (ps_set (i := 2) nd rfl (.inl rfl) (pe_lst (pa_cons (pe_lamcall (T := T) (TT := THeard CB CW CT) (t := fun E => tMake (r.of .plus) (spMkM r CB .plus) [] E (tCons (tVar 3) (tCons (tVar 3) tNil))) (k := k + 1) rfl HD.gl HD.kp lk2 hcd2 bH scHeard rfl (.inl rfl) (heard_gives X.isi ER) TB rfl hT hu (hr.mono (by omega)) (lamS_by (sc := defScope sRef) (by decide +kernel)) rfl (fun _ _ _ _ _ => rfl)
            (fun A outer s H E f c' hr2 => pe_make n1 p1 hr2 (by rfl) G.gS b1 .nil (passes_call (takes_of rfl rfl rfl rfl) (fun _ _ _ _ h => h)) (pa_cons (pv 3) (pa_cons (pv 3) pa_nil)))) (pa_cons (pe_lamcall (T := T) (TT := THeard CB CW CT) (t := fun E => tMake (r.of .plus) (spMkM r CB .plus) [] E (tCons (tVar 7) (tCons (tVar 3) tNil))) (k := k + 1) rfl HD.gl HD.kp lk2 hcd2 bH scHeard rfl (.inl rfl) (heard_gives X.isi ER) TB rfl hT hu (hr.mono (by omega)) (lamS_by (sc := defScope sRef) (by decide +kernel)) rfl (fun _ _ _ _ _ => rfl)
            (fun A outer s H E f c' hr2 => pe_make n1 p1 hr2 (by rfl) G.gS b1 .nil (passes_call (takes_of rfl rfl rfl rfl) (fun _ _ _ _ h => h)) (pa_cons (pv 7) (pa_cons (pv 3) pa_nil)))) (pa_cons (pe_lamcall (T := T) (TT := THeard CB CW CT) (t := fun E => tMake (r.of .plus) (spMkM r CB .plus) [] E (tCons (tVar 5) (tCons (tVar 7) tNil))) (k := k + 1) rfl HD.gl HD.kp lk2 hcd2 bH scHeard rfl (.inl rfl) (heard_gives X.isi ER) TB rfl hT hu (hr.mono (by omega)) (lamS_by (sc := defScope sRef) (by decide +kernel)) rfl (fun _ _ _ _ _ => rfl)
            (fun A outer s H E f c' hr2 => pe_make n1 p1 hr2 (by rfl) G.gS b1 .nil (passes_call (takes_of rfl rfl rfl rfl) (fun _ _ _ _ h => h)) (pa_cons (pv 5) (pa_cons (pv 7) pa_nil)))) (pa_cons (pe_lamcall (T := T) (TT := THeard CB CW CT) (t := fun E => tMake (r.of .star) (spMkM r CB .star) [] E (tCons (tVar 3) (tCons (tVar 3) tNil))) (k := k + 1) rfl HD.gl HD.kp lk2 hcd2 bH scHeard rfl (.inl rfl) (heard_gives X.isi ER) TB rfl hT hu (hr.mono (by omega)) (lamS_by (sc := defScope sRef) (by decide +kernel)) rfl (fun _ _ _ _ _ => rfl)
            (fun A outer s H E f c' hr2 => pe_make n2 p2 hr2 (by rfl) G.gC b2 .nil (passes_call (takes_of rfl rfl rfl rfl) (fun _ _ _ _ h => h)) (pa_cons (pv 3) (pa_cons (pv 3) pa_nil)))) (pa_cons (pe_lamcall (T := T) (TT := THeard CB CW CT) (t := fun E => tMake (r.of .star) (spMkM r CB .star) [] E (tCons (tVar 7) (tCons (tVar 3) tNil))) (k := k + 1) rfl HD.gl HD.kp lk2 hcd2 bH scHeard rfl (.inl rfl) (heard_gives X.isi ER) TB rfl hT hu (hr.mono (by omega)) (lamS_by (sc := defScope sRef) (by decide +kernel)) rfl (fun _ _ _ _ _ => rfl)
            (fun A outer s H E f c' hr2 => pe_make n2 p2 hr2 (by rfl) G.gC b2 .nil (passes_call (takes_of rfl rfl rfl rfl) (fun _ _ _ _ h => h)) (pa_cons (pv 7) (pa_cons (pv 3) pa_nil)))) (pa_cons (pe_lamcall (T := T) (TT := THeard CB CW CT) (t := fun E => tMake (r.of .star) (spMkM r CB .star) [] E (tCons (tVar 7) (tCons (tVar 5) tNil))) (k := k + 1) rfl HD.gl HD.kp lk2 hcd2 bH scHeard rfl (.inl rfl) (heard_gives X.isi ER) TB rfl hT hu (hr.mono (by omega)) (lamS_by (sc := defScope sRef) (by decide +kernel)) rfl (fun _ _ _ _ _ => rfl)
            (fun A outer s H E f c' hr2 => pe_make n2 p2 hr2 (by rfl) G.gC b2 .nil (passes_call (takes_of rfl rfl rfl rfl) (fun _ _ _ _ h => h)) (pa_cons (pv 7) (pa_cons (pv 5) pa_nil)))) (pa_cons (pe_lamcall (T := T) (TT := THeard CB CW CT) (t := fun E => tMake (r.of .minus) (spMkM r CB .minus) [] E (tCons (tVar 3) (tCons (tVar 7) tNil))) (k := k + 1) rfl HD.gl HD.kp lk2 hcd2 bH scHeard rfl (.inl rfl) (heard_gives X.isi ER) TB rfl hT hu (hr.mono (by omega)) (lamS_by (sc := defScope sRef) (by decide +kernel)) rfl (fun _ _ _ _ _ => rfl)
            (fun A outer s H E f c' hr2 => pe_make n3 p3 hr2 (by rfl) G.gR b3 .nil (passes_call (takes_of rfl rfl rfl rfl) (fun _ _ _ _ h => h)) (pa_cons (pv 3) (pa_cons (pv 7) pa_nil)))) (pa_cons (pe_lamcall (T := T) (TT := THeard CB CW CT) (t := fun E => tMakeK (r.of .minus) 0 2 (spMkM r CB .minus) (fun vs zs => vs ++ zs.reverse) E tNil (tCons (tVar 3) (tCons (tVar 5) tNil))) (k := k + 1) rfl HD.gl HD.kp lk2 hcd2 bH scHeard rfl (.inl rfl) (heard_gives X.isi ER) TB rfl hT hu (hr.mono (by omega)) (lamS_by (sc := defScope sRef) (by decide +kernel)) rfl (fun _ _ _ _ _ => rfl)
            (fun A outer s H E f c' hr2 => pe_makeK0 (ks := ["other", "one"]) m3 o3 hr2 (by rfl) G.gR k3 (passes_call (takes_of rfl rfl rfl rfl) (fun _ _ _ _ h => h)) (pk_cons (pv 3) (pk_cons (pv 5) pk_nil)))) (pa_cons (pe_lamcall (T := T) (TT := THeard CB CW CT) (t := fun E => tMake (r.of .minus) (spMkM r CB .minus) [] E (tCons (tVar 7) (tCons (tVar 7) tNil))) (k := k + 1) rfl HD.gl HD.kp lk2 hcd2 bH scHeard rfl (.inl rfl) (heard_gives X.isi ER) TB rfl hT hu (hr.mono (by omega)) (lamS_by (sc := defScope sRef) (by decide +kernel)) rfl (fun _ _ _ _ _ => rfl)
            (fun A outer s H E f c' hr2 => pe_make n3 p3 hr2 (by rfl) G.gR b3 .nil (passes_call (takes_of rfl rfl rfl rfl) (fun _ _ _ _ h => h)) (pa_cons (pv 7) (pa_cons (pv 7) pa_nil)))) pa_nil)))))))))))
      (pss_one (ps_ret (pe_cmpR (op_eqD hr.units) (pv 2) (pe_op op_cat (pe_op op_rep (pe_lst (pa_cons (pe_tup (pa_cons pe_str (pa_cons pe_str pa_nil))) (pa_cons (pe_tup (pa_cons pe_str (pa_cons pe_str pa_nil))) (pa_cons (pe_tup (pa_cons pe_str (pa_cons pe_str pa_nil))) pa_nil)))) pe_int) (pe_lst (pa_cons (pe_tup (pa_cons pe_str (pa_cons pe_str pa_nil))) (pa_cons (pe_tup (pa_cons pe_str (pa_cons pe_str pa_nil))) (pa_cons (pe_tup (pa_cons pe_str (pa_cons pe_str pa_nil))) pa_nil))))) (nomark _)))))))))), ?_⟩
    obtain ⟨hnl, hnm, _, _⟩ := hns
    obtain ⟨z0, zs0, rfl⟩ : ∃ z0 zs0, ns = z0 :: zs0 := by
      cases ns with
      | nil =>
        simp at hnl
        omega
      | cons z0 zs0 => exact ⟨z0, zs0, rfl⟩
    have hne : (z0 :: zs0) ≠ [] := List.cons_ne_nil _ _
    have hz0 := (hnm z0 List.mem_cons_self).1
    have hzl := (hnm _ (List.getLast_mem hne)).1
    have len_of : ∀ {y : Str}, nameB y = true → y.length ≤ 1000 := fun h => Nat.le_trans (name_len h) (by decide)
    have lastAt : atI ((z0 :: zs0).map V.str) (-1) = some (.str ((z0 :: zs0).getLast hne)) := by
      rw [at_last (by simp), List.getLast_map]
    generalize (z0 :: zs0).getLast hne = zl at hzl lastAt
    have ev0 : ∀ {σ : L2.St} {G : Hp}, σ[1]? = some (some (.ref a)) → G a = some (.lst ((z0 :: zs0).map V.str)) → Evl.Ev (tOp (rIxL K) (tVar 1) (tC (.int 0))) σ G (.str z0) := fun h1 h2 => Evl.ev_op (Evl.ev_var h1) Evl.ev_c (Evl.rv_ixL (Evl.sq_of h2) (atI_nat (j := 0) rfl))
    have evl : ∀ {σ : L2.St} {G : Hp}, σ[1]? = some (some (.ref a)) → G a = some (.lst ((z0 :: zs0).map V.str)) → Evl.Ev (tOp (rIxL K) (tVar 1) (tUn (rU fun i => .int (-i)) (tC (.int 1)))) σ G (.str zl) := fun h1 h2 => Evl.ev_op (Evl.ev_var h1) (Evl.ev_un Evl.ev_c Evl.ru_neg) (Evl.rv_ixL (Evl.sq_of h2) lastAt)
    -- odd values
    have oC : ∀ {σ : L2.St} {H : Hp} {U : String} (v : V), (∀ G, Knd G v U) → isName v = false → Evd p L (tC v) σ H 0 OddN := fun v h1 h2 => ed_c fun G => ⟨h2, _, h1 G⟩
    have oS : ∀ {σ : L2.St} {H : Hp} (z : Str), z.length ≤ 1000 → isName (.str z) = false → Evd p L (tC (.str z)) σ H 0 OddN := fun z h1 h2 => oC _ (fun _ => .str h1) h2
    have lA : ∀ {σ : L2.St} {H : Hp}, Evd p L (tLst (tCons (tC (.str "a")) tNil)) σ H 0 (fun v G => ∃ b, v = .ref b ∧ G b = some (.lst (([("a" : Str)]).map V.str))) := fun {σ H} => ed_strs fun H1 => Evl.el_lst (Evl.ea_cons Evl.ev_c Evl.ea_nil) (by show 1 ≤ 100000; decide)
    refine q_asgD (ed_pickC (P := OddN) (N := 11) mon_oddN (i := 0) rfl ⟨by decide, by decide⟩ (ed_lstP mon_oddN (by decide) (eda_cons mon_oddN (oC _ (fun _ => .non) rfl) (eda_cons mon_oddN (oC _ (fun _ => .int _) rfl) (eda_cons mon_oddN (oS _ (by decide) (by decide +kernel)) (eda_cons mon_oddN (oS _ (by decide) (by decide +kernel)) (eda_cons mon_oddN (oS _ (by decide) (by decide +kernel)) (eda_cons mon_oddN (oS _ (by decide) (by decide +kernel)) (eda_cons mon_oddN (oS _ (by decide) (by decide +kernel))
      (eda_cons mon_oddN (Evd.imp lA fun v G h => ?_) (eda_cons mon_oddN (oC _ (fun _ => .bl _) rfl) (eda_cons mon_oddN (oS _ (by decide) (by decide +kernel)) (eda_cons mon_oddN (Evd.imp (ed_tupP (N := 0) (P := fun _ _ => True) (fun _ _ _ _ _ => trivial) (by decide) eda_nil) fun v G h => ?_) eda_nil))))))))))))) hP (by omega) fun ov H1 k1 p1 ho => ?_
    · obtain ⟨b, rfl, hb⟩ := h
      exact ⟨rfl, _, .lst hb⟩
    · obtain ⟨b, vs, rfl, hb, _⟩ := h
      exact ⟨rfl, _, .tup hb⟩
    -- what is no region, what is no cell
    have bC : ∀ {σ : L2.St} {H : Hp} {U : String} (v : V), (∀ G, Knd G v U) → Evd p L (tC v) σ H 0 BadN := fun v h1 => ed_c fun G => ⟨_, h1 G⟩
    have a1 := k1 _ _ na ha
    refine asg2_open ?_
    refine ed_pickC (P := BadN) (N := 6) mon_badN (i := 0) rfl ⟨by decide, by decide⟩ (ed_lstP mon_badN (by decide) (eda_cons mon_badN (bC _ fun _ => .non) (eda_cons mon_badN (Evd.imp (ed_of (v := .str z0) (P := fun v _ => v = .str z0) (fun G kG => ev0 rfl (kG _ _ na a1)) fun _ => rfl) fun v G h => ?_) (eda_cons mon_badN (bC _ fun _ => .int _)
      (eda_cons mon_badN (Evd.imp (ed_lstP (N := 0) (P := fun _ _ => True) (fun _ _ _ _ _ => trivial) (by decide) eda_nil) fun v G h => ?_) (eda_cons mon_badN (Evd.imp lA fun v G h => ?_) (eda_cons mon_badN (Evd.imp ed_dict0 fun v G h => ?_) eda_nil))))))) H1 (Kp.refl _ _) _ p1 (by omega) _ fun bv H2 k2 p2 hb => ?_
    · subst h
      exact ⟨_, .str (len_of hz0)⟩
    · obtain ⟨b, vs, rfl, hb, _⟩ := h
      exact ⟨_, .lst hb⟩
    · obtain ⟨b, rfl, hb⟩ := h
      exact ⟨_, .lst hb⟩
    · obtain ⟨b, rfl, hb⟩ := h
      exact ⟨_, .dict hb⟩
    have cL : ∀ {σ : L2.St} {H : Hp} {u v : Str}, PySem.PyData.strOk u = true → PySem.PyData.strOk v = true → u.length ≤ 1000 → v.length ≤ 1000 → cellO (some ([u, v].map V.str)) = false → Evd p L (tLst (tCons (tC (.str u)) (tCons (tC (.str v)) tNil))) σ H 0 CellN := fun {σ H u v} h1 h2 h3 h4 h5 => Evd.imp (ed_strs (xs := [u, v].map V.str) fun H1 => Evl.el_lst (Evl.ea_cons Evl.ev_c (Evl.ea_cons Evl.ev_c Evl.ea_nil)) (by show 2 ≤ 100000; decide)) fun w G h => by
      obtain ⟨b, rfl, hb⟩ := h
      refine ⟨_, .lst hb (by show 2 ≤ 20; decide) fun x hx => ?_, h5⟩
      simp only [List.map_cons, List.map_nil, List.mem_cons, List.not_mem_nil, or_false] at hx
      rcases hx with rfl | rfl
      · exact .str h3 h1
      · exact .str h4 h2
    refine ed_pickC (P := CellN) (N := 8) mon_cellN (i := 0) rfl ⟨by decide, by decide⟩ (ed_lstP mon_cellN (by decide) (eda_cons mon_cellN (ed_c fun _ => ⟨none, .flat .non (by decide) (by decide), rfl⟩) (eda_cons mon_cellN (ed_c fun _ => ⟨none, .flat (.str (by decide)) (by decide) (by decide), rfl⟩)
      (eda_cons mon_cellN (cL (by decide +kernel) (by decide +kernel) (by decide) (by decide) (by decide +kernel)) (eda_cons mon_cellN (cL (by decide +kernel) (by decide +kernel) (by decide) (by decide) (by decide +kernel))
      (eda_cons mon_cellN (Evd.imp (ed_strs (xs := [.int 5]) fun H1 => Evl.el_lst (Evl.ea_cons Evl.ev_c Evl.ea_nil) (by show 1 ≤ 100000; decide)) fun v G h => ?_) (eda_cons mon_cellN (Evd.imp (ed_lstP (N := 1) (P := fun v G => ∃ b, v = .ref b ∧ G b = some (.lst (([("a" : Str)]).map V.str))) (fun _ _ _ e h => let ⟨b, h1, h2⟩ := h; ⟨b, h1, e _ _ h2⟩) (by decide) (eda_cons (fun _ _ _ e h => let ⟨b, h1, h2⟩ := h; ⟨b, h1, e _ _ h2⟩) lA eda_nil)) fun v G h => ?_)
      (eda_cons mon_cellN (Evd.imp ed_dict0 fun v G h => ?_) (eda_cons mon_cellN (cL (by decide +kernel) (by decide +kernel) (by decide) (by decide) (by decide +kernel)) eda_nil))))))))) H2 (Kp.refl _ _) _ p2 (by omega) _ fun cv H3 k3' p3' hc => ⟨(by show 2 ≤ sizeLine; decide), fun u1 nu1 => ?_⟩
    · obtain ⟨b, rfl, hb⟩ := h
      exact ⟨_, .lst hb (by show 1 ≤ 20; decide) (fun x hx => by rw [List.mem_singleton.mp hx]; exact .int 5), rfl⟩
    · obtain ⟨b, vs, rfl, hb, hl, hv⟩ := h
      obtain ⟨x, rfl⟩ : ∃ x, vs = [x] := by
        match vs, hl with
        | [x], _ => exact ⟨x, rfl⟩
      obtain ⟨b2, rfl, hb2⟩ := hv x List.mem_cons_self
      exact ⟨_, .lst hb (by show 1 ≤ 20; decide) (fun x hx => by rw [List.mem_singleton.mp hx]; exact .lst hb2 (by decide +kernel)), rfl⟩
    · obtain ⟨b, rfl, hb⟩ := h
      exact ⟨none, .flat (.dict hb) (by decide) (by decide), rfl⟩
    have e3' := Evl.Ex.new (o := .tup [bv, cv]) nu1
    refine ⟨u1, _, rfl, Evl.st_of upd_same, rfl, bv, _, rfl, cv, _, rfl, rfl, ?_⟩
    have k04 : Kp p H1 _ := (k2.trans k3').trans (Same.kp e3')
    have kh : Kp p H3 _ := Same.kp e3'
    have p4 := p3'.same e3'
    generalize upd H3 u1 (.tup [bv, cv]) = H4 at k04 kh p4 ⊢
    have a4 := k04 _ _ na a1
    -- a land, a wide region
    have wN : ∀ sg : Sg, TrN (.node sg (.node .plus (.leaf z0) (.leaf zl)) (.leaf z0)) := fun sg => ⟨⟨hz0, hzl⟩, hz0⟩
    refine asg2_open ?_
    refine rd_mkL (v := .str z0) (Evl.ea_cons (ev0 rfl a4) Evl.ea_nil) (.inl ⟨z0, rfl, hz0, fun xl H5 e5 hrl => ?_⟩) (fun z h => by cases h; exact len_of hz0)
    have p5 := p4.same e5
    obtain ⟨pxs, hpx⟩ := K04.PenL.hid p5
    have hrl5 := reg_hide hpx hrl
    have a5 := e5 _ _ a4
    refine ed_pickC (P := SgW) (N := 3) mon_sg (i := 0) rfl ⟨by decide, by decide⟩ ed_sgs H5 (Kp.refl _ _) _ p5 (by omega) _ fun sv H6 k6 p6 hsg => ?_
    obtain ⟨sg, rfl⟩ := hsg
    have a6 := k6 _ _ na a5
    refine ev0 rfl a6 H6 (Evl.Ex.refl _) _ fun H7 e7 => evl rfl (e7 _ _ a6) H7 (Evl.Ex.refl _) _ fun H8 e8 => ⟨(by show 3 ≤ sizeLine; decide), fun u2 nu2 => ?_⟩
    have eu2 := Evl.Ex.new (o := .tup [.str "+", .str z0, .str zl]) nu2
    have e68 := (e7.trans e8).trans eu2
    refine ev0 rfl (e68 _ _ a6) _ (Evl.Ex.refl _) _ fun H9 e9 => ⟨(by show 3 ≤ sizeLine; decide), fun u3 nu3 => ?_⟩
    have eu3 := Evl.Ex.new (o := .tup [.str sg.str, .ref u2, .str z0]) nu3
    refine ⟨.ref u3, .node sg (.node .plus (.leaf z0) (.leaf zl)) (.leaf z0), rfl, ⟨u3, .ref u2, .str z0, rfl, upd_same, ⟨u2, .str z0, .str zl, rfl, eu3 _ _ (e9 _ _ upd_same), rfl, rfl⟩, rfl⟩, wN sg, (by show 1 + max (1 + max 0 0) 0 ≤ 2; decide), Nat.le_refl _, fun xw H10 e10 hrw => ⟨(by show 2 ≤ sizeLine; decide), fun u4 nu4 => ?_⟩⟩
    have eu4 := Evl.Ex.new (o := .tup [xl, xw]) nu4
    refine ⟨u4, _, rfl, Evl.st_of upd_same, rfl, xl, _, rfl, xw, _, rfl, rfl, ?_⟩
    have e6x := ((((e68.trans e9).trans eu3).trans e10).trans eu4)
    have pZ := p6.same e6x
    have kZ : Kp p H5 _ := k6.trans (Same.kp e6x)
    have k1Z : Kp p H1 _ := (k04.trans (Same.kp e5)).trans kZ
    have k3Z : Kp p H3 _ := (kh.trans (Same.kp e5)).trans kZ
    have k2Z : Kp p H2 _ := k3'.trans k3Z
    have hrwZ := hrw.mono eu4
    have T0 := tabs_pen hP hTab (k1.trans k1Z)
    obtain ⟨nmOdd, Uo, kdo⟩ := ho
    obtain ⟨Ub, kdb⟩ := hb
    obtain ⟨oc', snc, hoc⟩ := hc
    generalize hHZ : upd H10 u4 (.tup [xl, xw]) = HZ at e6x pZ kZ k1Z k3Z k2Z hrwZ T0 ⊢
    have kdoZ : Knd (hide p HZ) ov Uo := kdo.mono (hide_kp k1Z)
    have kdbZ : Knd (hide p HZ) bv Ub := kdb.mono (hide_kp k2Z)
    have sncZ : Seen (hide p HZ) cv oc' := snc.mono (hide_kp k3Z)
    have hlZ : RegAt r (hide p HZ) (.leaf z0) xl := hrl5.mono (hide_kp kZ)
    obtain ⟨pzs, hpz⟩ := K04.PenL.hid pZ
    have hwZ : RegAt r (hide p HZ) (.node sg (.node .plus (.leaf z0) (.leaf zl)) (.leaf z0)) xw := reg_hide hpz hrwZ
    have at0 : ∀ {G : Hp}, KpT p HZ G → ExtN (hide p HZ) G := fun k b o h n => k b o (hide_ne h) (hide_sub p _ _ _ h) n
    have y00 : KpT p HZ HZ := fun b o _ h _ => h
    have nt : ∀ {xs : List V} (ps : Array Value), HO.tup xs ≠ .tbl ps := fun _ z => nomatch z
    -- four refusals
    refine lst4_open (lam_land rfl nmOdd (knd_extN (at0 y00) kdoZ) T0 fun F1 c1 x1 S1 h1 => ?_)
    have w1 := y00.trans (KpT.ofN x1)
    refine lam_landK rfl nmOdd (knd_extN (at0 w1) kdoZ) S1 fun F2 c2 x2 S2 h2 => ?_
    have w2 := w1.trans (KpT.ofN x2)
    refine lam_over rfl rfl (reg_extN (at0 w2) hwZ) (by show 1 + max (1 + max 0 0) 0 ≤ 2; decide) (seen_extN (at0 w2) sncZ) hoc S2 fun F3 c3 x3 S3 h3 => ?_
    have w3 := w2.trans (KpT.ofN x3)
    have pF3 := pen_ext (pen_ext (pen_ext pZ x1) x2) x3
    refine lam_readP rfl rfl (reg_extN (hide_kpt w3) hlZ) pF3 (by omega) S3 fun F4 c4 d4 w34 S4 hd4 h4 => ⟨(by show 4 ≤ sizeLine; decide), fun l4 nl4 => ?_⟩
    have w4 := w3.trans w34
    obtain ⟨ps3, hp3⟩ := K04.PenL.hid pF3
    have nep : ∀ {b : Addr} {xs : List V}, F3 b = some (.tup xs) → b ≠ p := fun hb e => by
      rw [e, hp3] at hb
      cases hb
    have el4 := Evl.Ex.new (o := .lst [.ref c1, .ref c2, .ref c3, .ref c4]) nl4
    have g1' := x3 _ _ (x2 _ _ h1 nt) nt
    have g2' := x3 _ _ h2 nt
    have q1 := el4 _ _ (w34 _ _ (nep g1') g1' nt)
    have q2 := el4 _ _ (w34 _ _ (nep g2') g2' nt)
    have q3 := el4 _ _ (w34 _ _ (nep h3) h3 nt)
    have q4 := el4 _ _ h4
    have q4' := el4 _ _ hd4
    have S4' := S4.ext el4
    have w4' := w4.trans (KpT.of (p := p) (Same.kp el4))
    have hl4 : (upd F4 l4 (.lst [.ref c1, .ref c2, .ref c3, .ref c4])) l4 = some (.lst [.ref c1, .ref c2, .ref c3, .ref c4]) := upd_same
    generalize upd F4 l4 (.lst [.ref c1, .ref c2, .ref c3, .ref c4]) = F5 at q1 q2 q3 q4 q4' S4' w4' hl4 ⊢
    refine ⟨.ref l4, rfl, (by show 2 ≤ sizeLine; decide), fun r1 m1 => ⟨(by show 2 ≤ sizeLine; decide), fun r2 m2 => ⟨(by show 2 ≤ sizeLine; decide), fun r3 m3' => ⟨(by show 2 ≤ sizeLine; decide), fun r4 m4 => ⟨(by show 2 ≤ sizeLine; decide), fun r5 m5 => ⟨(by show 4 ≤ sizeLine; decide), fun l5 m6 => ?_⟩⟩⟩⟩⟩⟩
    have E1 := Evl.Ex.new (o := .tup [V.str "region", V.str "name"]) m1
    have E2 := Evl.Ex.new (o := .tup [V.str "region", V.str "name"]) m2
    have E3 := Evl.Ex.new (o := .tup [V.str "world", V.str "cell"]) m3'
    have E4 := Evl.Ex.new (o := .tup [V.int 0, V.int 0]) m4
    have E5 := Evl.Ex.new (o := .tup [V.str "text", V.ref r4]) m5
    have E6 := Evl.Ex.new (o := .lst [V.ref r1, V.ref r2, V.ref r3, V.ref r5]) m6
    have EA := ((((E1.trans E2).trans E3).trans E4).trans E5).trans E6
    have dataL : PyData.canLay0 (.list [.tuple [.str "region", .str "name"], .tuple [.str "region", .str "name"], .tuple [.str "world", .str "cell"], .tuple [.str "text", .tuple [.int 0, .int 0]]]) = true := by decide +kernel
    have dataS : SeqAt.shaped (.list [.tuple [.str "region", .str "name"], .tuple [.str "region", .str "name"], .tuple [.str "world", .str "cell"], .tuple [.str "text", .tuple [.int 0, .int 0]]]) = true := by decide +kernel
    refine ⟨.list [.tuple [.str "region", .str "name"], .tuple [.str "region", .str "name"], .tuple [.str "world", .str "cell"], .tuple [.str "text", .tuple [.int 0, .int 0]]], .list [.tuple [.str "region", .str "name"], .tuple [.str "region", .str "name"], .tuple [.str "world", .str "cell"], .tuple [.str "text", .tuple [.int 0, .int 0]]],
      .lst (Evl.sq_of (EA _ _ hl4)) (.cons (.tup (Evl.st_of (EA _ _ q1)) (.cons (.str _) (.cons (.str _) .nil))) (.cons (.tup (Evl.st_of (EA _ _ q2)) (.cons (.str _) (.cons (.str _) .nil))) (.cons (.tup (Evl.st_of (EA _ _ q3)) (.cons (.str _) (.cons (.str _) .nil))) (.cons (.tup (Evl.st_of (EA _ _ q4)) (.cons (.str _) (.cons (.tup (Evl.st_of (EA _ _ q4')) (.cons (.int _) (.cons (.int _) .nil))) .nil))) .nil)))),
      .lst (Evl.sq_of upd_same) (.cons (.tup (Evl.st_of (E6 _ _ (E5 _ _ (E4 _ _ (E3 _ _ (E2 _ _ upd_same)))))) (.cons (.str _) (.cons (.str _) .nil))) (.cons (.tup (Evl.st_of (E6 _ _ (E5 _ _ (E4 _ _ (E3 _ _ upd_same))))) (.cons (.str _) (.cons (.str _) .nil))) (.cons (.tup (Evl.st_of (E6 _ _ (E5 _ _ (E4 _ _ upd_same)))) (.cons (.str _) (.cons (.str _) .nil))) (.cons (.tup (Evl.st_of (E6 _ _ upd_same)) (.cons (.str _) (.cons (.tup (Evl.st_of (E6 _ _ (E5 _ _ upd_same))) (.cons (.int _) (.cons (.int _) .nil))) .nil))) .nil)))),
      dataS, dataS, ?_⟩
    rw [PySem.SeqAt.eqv_refl _ dataL]
    refine ⟨false, rfl, iteF ?_⟩
    have S0 := S4'.ext EA
    have y0 : ExtN (hide p HZ) _ := at0 (w4'.trans (KpT.of (p := p) (Same.kp EA)))
    have rb : ∀ {G : Hp}, ExtN (hide p HZ) G → RVal r G bv none := fun e => .odd (knd_extN e kdbZ)
    have rl : ∀ {G : Hp}, ExtN (hide p HZ) G → RVal r G xl (some (.leaf z0)) := fun e => .reg (reg_extN e hlZ)
    have rw_ : ∀ {G : Hp}, ExtN (hide p HZ) G → RVal r G xw (some (.node sg (.node .plus (.leaf z0) (.leaf zl)) (.leaf z0))) := fun e => .reg (reg_extN e hwZ)
    have dn : ∀ t, (none : Option Tr) = some t → t.depth ≤ 2 := fun _ h => nomatch h
    have dl : ∀ t, some (Tr.leaf z0) = some t → t.depth ≤ 2 := fun t h => by rw [← Option.some.inj h]; exact Nat.zero_le _
    have dw : ∀ t, some (Tr.node sg (.node .plus (.leaf z0) (.leaf zl)) (.leaf z0)) = some t → t.depth ≤ 2 := fun t h => by rw [← Option.some.inj h]; show 1 + max (1 + max 0 0) 0 ≤ 2; decide
    have deep_lw : ∀ {u : Sg}, 2 < (Tr.node u (.leaf z0) (.node sg (.node .plus (.leaf z0) (.leaf zl)) (.leaf z0))).depth := fun {u} => (by show 2 < 1 + max 0 (1 + max (1 + max 0 0) 0); decide)
    have deep_wl : ∀ {u : Sg}, 2 < (Tr.node u (.node sg (.node .plus (.leaf z0) (.leaf zl)) (.leaf z0)) (.leaf z0)).depth := fun {u} => (by show 2 < 1 + max (1 + max (1 + max 0 0) 0) 0; decide)
    have deep_ww : ∀ {u : Sg}, 2 < (Tr.node u (.node sg (.node .plus (.leaf z0) (.leaf zl)) (.leaf z0)) (.node sg (.node .plus (.leaf z0) (.leaf zl)) (.leaf z0))).depth := fun {u} => (by show 2 < 1 + max (1 + max (1 + max 0 0) 0) (1 + max (1 + max 0 0) 0); decide)
    clear hHZ
    refine lst9_open (lam_mk (nm := "one") rfl rfl (rb y0) (rb y0) dn dn (fun _ _ _ h => .inl ⟨rfl, h⟩) S0 fun F1 c1 x1 S1 h1 => ?_)
    have y1 := y0.trans x1
    refine (lam_mk (nm := "other") rfl rfl (rw_ y1) (rb y1) dw dn (fun _ _ _ h => .inr (.inl ⟨rfl, rfl, h⟩)) S1 fun F2 c2 x2 S2 h2 => ?_)
    have y2 := y1.trans x2
    refine (lam_mk (nm := "depth") rfl rfl (rl y2) (rw_ y2) dl dw (fun _ _ _ h => .inr (.inr ⟨_, _, rfl, rfl, .inl ⟨deep_lw, h⟩⟩)) S2 fun F3 c3 x3 S3 h3 => ?_)
    have y3 := y2.trans x3
    refine (lam_mk (nm := "one") rfl rfl (rb y3) (rb y3) dn dn (fun _ _ _ h => .inl ⟨rfl, h⟩) S3 fun F4 c4 x4 S4 h4 => ?_)
    have y4 := y3.trans x4
    refine (lam_mk (nm := "other") rfl rfl (rw_ y4) (rb y4) dw dn (fun _ _ _ h => .inr (.inl ⟨rfl, rfl, h⟩)) S4 fun F5 c5 x5 S5 h5 => ?_)
    have y5 := y4.trans x5
    refine (lam_mk (nm := "depth") rfl rfl (rw_ y5) (rl y5) dw dl (fun _ _ _ h => .inr (.inr ⟨_, _, rfl, rfl, .inl ⟨deep_wl, h⟩⟩)) S5 fun F6 c6 x6 S6 h6 => ?_)
    have y6 := y5.trans x6
    refine (lam_mk (nm := "one") rfl rfl (rb y6) (rw_ y6) dn dw (fun _ _ _ h => .inl ⟨rfl, h⟩) S6 fun F7 c7 x7 S7 h7 => ?_)
    have y7 := y6.trans x7
    refine (lam_mkR (nm := "other") rfl rfl (rl y7) (rb y7) dl dn (fun _ _ _ h => .inr (.inl ⟨rfl, rfl, h⟩)) S7 fun F8 c8 x8 S8 h8 => ?_)
    have y8 := y7.trans x8
    refine (lam_mk (nm := "depth") rfl rfl (rw_ y8) (rw_ y8) dw dw (fun _ _ _ h => .inr (.inr ⟨_, _, rfl, rfl, .inl ⟨deep_ww, h⟩⟩)) S8 fun F9 c9 x9 S9 h9 => ?_)
    have y9 := y8.trans x9
    refine ⟨(by show 9 ≤ sizeLine; decide), fun l9 n9 => ?_⟩
    have e9 := ExtN.of (Evl.Ex.new (o := .lst [.ref c1, .ref c2, .ref c3, .ref c4, .ref c5, .ref c6, .ref c7, .ref c8, .ref c9]) n9)
    have k1 := e9 _ _ (x9 _ _ (x8 _ _ (x7 _ _ (x6 _ _ (x5 _ _ (x4 _ _ (x3 _ _ (x2 _ _ h1 nt) nt) nt) nt) nt) nt) nt) nt) nt
    have k2 := e9 _ _ (x9 _ _ (x8 _ _ (x7 _ _ (x6 _ _ (x5 _ _ (x4 _ _ (x3 _ _ h2 nt) nt) nt) nt) nt) nt) nt) nt
    have k3 := e9 _ _ (x9 _ _ (x8 _ _ (x7 _ _ (x6 _ _ (x5 _ _ (x4 _ _ h3 nt) nt) nt) nt) nt) nt) nt
    have k4 := e9 _ _ (x9 _ _ (x8 _ _ (x7 _ _ (x6 _ _ (x5 _ _ h4 nt) nt) nt) nt) nt) nt
    have k5 := e9 _ _ (x9 _ _ (x8 _ _ (x7 _ _ (x6 _ _ h5 nt) nt) nt) nt) nt
    have k6 := e9 _ _ (x9 _ _ (x8 _ _ (x7 _ _ h6 nt) nt) nt) nt
    have k7 := e9 _ _ (x9 _ _ (x8 _ _ h7 nt) nt) nt
    have k8 := e9 _ _ (x9 _ _ h8 nt) nt
    have k9 := e9 _ _ h9 nt
    refine ⟨.ref l9, rfl, ?_⟩
    have hl9 : (upd F9 l9 (.lst [.ref c1, .ref c2, .ref c3, .ref c4, .ref c5, .ref c6, .ref c7, .ref c8, .ref c9])) l9 = some (.lst [.ref c1, .ref c2, .ref c3, .ref c4, .ref c5, .ref c6, .ref c7, .ref c8, .ref c9]) := upd_same
    generalize upd F9 l9 (.lst [.ref c1, .ref c2, .ref c3, .ref c4, .ref c5, .ref c6, .ref c7, .ref c8, .ref c9]) = Fx at hl9 k1 k2 k3 k4 k5 k6 k7 k8 k9 ⊢
    refine rep_open (lst3_tups fun la t1 t2 t3 G1 g1 hla j1 j2 j3 => ⟨la, 2, _, rfl, rfl, hla, by decide, by decide, (by show 3 * 2 ≤ sizeLine; decide), fun lb nlb => ?_⟩)
    have g2 := Evl.Ex.new (o := .lst (List.replicate (2 : Int).toNat [V.ref t1, V.ref t2, V.ref t3]).flatten) nlb
    have hlb : (upd G1 lb (.lst (List.replicate (2 : Int).toNat [V.ref t1, V.ref t2, V.ref t3]).flatten)) lb = some (.lst [.ref t1, .ref t2, .ref t3, .ref t1, .ref t2, .ref t3]) := upd_same
    refine lst3_tups fun lc u1' u2' u3' G2 g3 hlc i1 i2 i3 => ⟨lb, lc, _, _, rfl, rfl, g3 _ _ hlb, hlc, (by show 6 + 3 ≤ sizeLine; decide), fun ld nld => ?_⟩
    have g4 := Evl.Ex.new (o := .lst ([V.ref t1, .ref t2, .ref t3, .ref t1, .ref t2, .ref t3] ++ [V.ref u1', V.ref u2', V.ref u3'])) nld
    have hld : (upd G2 ld (.lst ([V.ref t1, .ref t2, .ref t3, .ref t1, .ref t2, .ref t3] ++ [V.ref u1', V.ref u2', V.ref u3']))) ld = some (.lst [V.ref t1, .ref t2, .ref t3, .ref t1, .ref t2, .ref t3, V.ref u1', V.ref u2', V.ref u3']) := upd_same
    have g24 := g2.trans (g3.trans g4)
    have g14 := g1.trans g24
    have dataL9 : PyData.canLay0 (.list [.tuple [.str "region", .str "one"], .tuple [.str "region", .str "other"], .tuple [.str "region", .str "depth"], .tuple [.str "region", .str "one"], .tuple [.str "region", .str "other"], .tuple [.str "region", .str "depth"], .tuple [.str "region", .str "one"], .tuple [.str "region", .str "other"], .tuple [.str "region", .str "depth"]]) = true := by decide +kernel
    have dataS9 : SeqAt.shaped (.list [.tuple [.str "region", .str "one"], .tuple [.str "region", .str "other"], .tuple [.str "region", .str "depth"], .tuple [.str "region", .str "one"], .tuple [.str "region", .str "other"], .tuple [.str "region", .str "depth"], .tuple [.str "region", .str "one"], .tuple [.str "region", .str "other"], .tuple [.str "region", .str "depth"]]) = true := by decide +kernel
    have two : ∀ {G : Hp} {b : Addr} {z : Str}, G b = some (.tup [.str "region", .str z]) → Dp K G (.ref b) (.tuple [.str "region", .str z]) := fun h => .tup (Evl.st_of h) (.cons (.str _) (.cons (.str _) .nil))
    refine ⟨.list [.tuple [.str "region", .str "one"], .tuple [.str "region", .str "other"], .tuple [.str "region", .str "depth"], .tuple [.str "region", .str "one"], .tuple [.str "region", .str "other"], .tuple [.str "region", .str "depth"], .tuple [.str "region", .str "one"], .tuple [.str "region", .str "other"], .tuple [.str "region", .str "depth"]],
      .list [.tuple [.str "region", .str "one"], .tuple [.str "region", .str "other"], .tuple [.str "region", .str "depth"], .tuple [.str "region", .str "one"], .tuple [.str "region", .str "other"], .tuple [.str "region", .str "depth"], .tuple [.str "region", .str "one"], .tuple [.str "region", .str "other"], .tuple [.str "region", .str "depth"]],
      .lst (Evl.sq_of (g14 _ _ hl9)) (.cons (two (g14 _ _ k1)) (.cons (two (g14 _ _ k2)) (.cons (two (g14 _ _ k3)) (.cons (two (g14 _ _ k4)) (.cons (two (g14 _ _ k5)) (.cons (two (g14 _ _ k6)) (.cons (two (g14 _ _ k7)) (.cons (two (g14 _ _ k8)) (.cons (two (g14 _ _ k9)) .nil))))))))),
      .lst (Evl.sq_of hld) (.cons (two (g24 _ _ j1)) (.cons (two (g24 _ _ j2)) (.cons (two (g24 _ _ j3)) (.cons (two (g24 _ _ j1)) (.cons (two (g24 _ _ j2)) (.cons (two (g24 _ _ j3)) (.cons (two (g4 _ _ i1)) (.cons (two (g4 _ _ i2)) (.cons (two (g4 _ _ i3)) .nil))))))))), dataS9, dataS9, ?_⟩
    rw [PySem.SeqAt.eqv_refl _ dataL9]
    exact q _
end
end K04
namespace K04
open PySem PySem.Spec PyProof.Rows L2 BW LamX
abbrev sLaw : Stmt := topS 48
def spLaw (K : PySem.W.Frag) (TT : List (Addr × Str)) : Sp := fun vs H Q _ => ∃ (a : Addr) (ns : List Int), vs = [.ref a] ∧ SqL K H a (ns.map V.int) ∧ ns.length ≤ 63 ∧ Tabs TT H ∧ ∀ H', Q (.bl true) H'
section
variable {P : Program} {w : World} {K : PySem.W.Frag} {mg : Str → Option Value} {base : Heap} {g : Addr} {k : Nat} {T : List (Addr × Str)}
/-- what law calls -/
structure Lw (P : Program) (w : World) (K : PySem.W.Frag) (mg : Str → Option Value) (base : Heap) (g : Addr) (k : Nat) (T : List (Addr × Str)) : Prop where
  X : Tx mg
  B : RgB K mg g
  S : ∃ f fd, Df P w K mg base k "_law_pen" ["_law_script"] (spPen K) f fd
  D : ∃ f fd, Df P w K mg base k "_law_draw" ["_law_pen_here", "_law_many"] spDraw f fd
  N : ∃ f fd, Df P w K mg base k "_law_names" ["_law_pen_here", "_law_many"] spNames f fd
  TR : ∃ f fd, Df P w K mg base k "_law_tree" ["_law_pen_here", "_law_names_here", "_law_most"] (spTree 2) f fd
  RR : ∃ f fd, Df P w K mg base k "_law_region_right" ["_law_pen_here", "_law_tree_here", "_law_names_here"] spRegion f fd
  TX : ∃ f fd, Df P w K mg base k "_law_text_right" ["_law_pen_here", "_law_tree_here"] (spTextR T) f fd
  RF : ∃ f fd, Df P w K mg base k "_law_refused_right" ["_law_pen_here", "_law_names_here"] (spRefR T) f fd
theorem scLaw : FnScope ["_law_script", "_law_pen_here", "_law_names_here", "_law_turned", "_law_tree_here"] ["_law_script"] (defScope sLaw) := ⟨rfl, rfl, rfl, by decide +kernel, rfl, by decide +kernel, by decide +kernel⟩
theorem ok_law {f : Addr} {fd : FuncData} (W : Lw P w K mg base g k T) (F : Fun K "law" "law" sLaw f fd) : FnOk P w K mg base CX0 (k + 1) f fd ["_law_script"] (spLaw K T) := by
  obtain ⟨X, B, ⟨fS, dS, S⟩, ⟨fD, dD, DR⟩, ⟨fN, dN, N⟩, ⟨fT, dT, TR⟩, ⟨fR, dR, RR⟩, ⟨fX, dX, TX⟩, ⟨fF, dF, RF⟩⟩ := W
  refine F.ok scLaw (fun vs H Q E h => ?_) (fun cdv A outer s H vs Q E hr h => ?_)
  · obtain ⟨a, ns, rfl, _⟩ := h
    rfl
  · obtain ⟨a, ns, rfl, hS, hl, hTab, q⟩ := h
    have nd := scLaw.nd
    refine ⟨_, pss_cons (ps_set (i := 1) nd rfl (.inl rfl) (pe_df S hr (pa_cons (pv 0) pa_nil)))
      (pss_cons (ps_set (i := 2) nd rfl (.inl rfl) (pe_df N hr (pa_cons (pv 1) (pa_cons (pe_op op_add pe_int (pe_df DR hr (pa_cons (pv 1) (pa_cons pe_int pa_nil)))) pa_nil))))
      (pss_cons (ps_for PassesOwn.never rfl (pi_range1 (by rfl) X.rng (pa_cons pe_int pa_nil)) (pg_name (i := 3) nd rfl (.inl rfl))
        (pss_cons (ps_set (i := 4) nd rfl (.inl rfl) (pe_df TR hr (pa_cons (pv 1) (pa_cons (pv 2) (pa_cons pe_int pa_nil)))))
        (pss_one (ps_if (PW.pt (pw_or (pt_not (pt_val (pe_df RR hr (pa_cons (pv 1) (pa_cons (pv 4) (pa_cons (pv 2) pa_nil)))))) (pw_or1 (pt_not (pt_val (pe_df TX hr (pa_cons (pv 1) (pa_cons (pv 4) pa_nil)))))))) (pss_one (ps_ret pe_bl)) pss_nil))))
      (pss_cons (ps_if (pt_cmpR op_ne (ClX.pe_cval (pe_glob (v := .ref g) (by rfl) B.nm rfl)) pe_int (nomark _)) (pss_one (ps_ret pe_bl)) pss_nil)
      (pss_one (ps_ret (pe_df RF hr (pa_cons (pv 1) (pa_cons (pv 2) pa_nil)))))))), ?_⟩
    refine ⟨.ref a, rfl, a, ns, rfl, hS, hl, fun p L H1 s1 np p1 => ?_⟩
    have T1 : Tabs T H1 := hTab.ext s1
    -- the names
    refine ⟨.ref p, rfl, ?_⟩
    refine ed_drawC (M := 5) (i := 1) rfl (by decide) (by decide) H1 (Kp.refl _ _) 0 p1 (by omega) _ fun v H2 k2 p2 hv => ?_
    obtain ⟨j, rfl, j0, j1⟩ := hv
    have ej : (1 : Int) + j = ((j.toNat + 1 : Nat) : Int) := by omega
    refine ⟨1, j, rfl, rfl, p, L, 0 + 1, j.toNat + 1, congrArg (fun x => [V.ref p, V.int x]) ej, p2, by omega, by omega, fun b ys H3 k3 p3 nb hb hy => ?_⟩
    have T3 : Tabs T H3 := tabs_pen p2 (tabs_pen p1 T1 k2) k3
    -- three turns
    refine q_forRD (p := p) (L := L) (M := 3) (C := fun i => i = 3) (m := 0) (by decide) (ed_c fun _ => ⟨3, rfl, by decide, rfl⟩) p3 (by omega) fun c H4 hC hc4 k4 p4 => ?_
    subst hC
    refine ⟨fun i σ G => ∃ o3 o4, σ = [some (.ref a), some (.ref p), some (.ref b), o3, o4] ∧ PenL G p L (81 + 47 * i) ∧ G b = some (.lst (ys.map V.str)) ∧ Tabs T G, ⟨none, none, rfl, p4, k4 _ _ nb hb, tabs_pen p3 T3 k4⟩, ?_, ?_⟩
    · rintro i σ G hi ⟨o3, o4, rfl, pG, hbG, TG⟩
      have nmt : ∀ z ∈ ys, nameB z = true := fun z hz => (hy.2.1 z hz).1
      have yne : ys ≠ [] := fun e => by
        have := hy.1
        rw [e] at this
        simp at this
      refine q_asgX ?_
      refine ⟨.ref p, rfl, .ref b, rfl, p, L, b, 81 + 47 * i, ys, rfl, pG, (by show 81 + 47 * i + 10 ≤ 100000; omega), nb, hbG, yne, by have := hy.1; omega, fun t v G1 kt pt dt at_ tt => ?_⟩
      have pt' : PenL G1 p L (81 + 47 * i + 10) := pt
      have tN : TrN t := at_.imp fun z hz => nmt z hz
      have T5 := tabs_pen pG TG kt
      have hb1 := kt _ _ nb hbG
      refine ⟨.ref p, rfl, v, rfl, .ref b, rfl, p, L, b, 81 + 47 * i + 10, j.toNat + 1, v, t, ys, rfl, pt', by omega, by omega, by omega, tt, tN, dt, nb, hb1, hy, fun G2 k2' p2' => ⟨true, rfl, iteF ?_⟩⟩
      refine ⟨.ref p, rfl, v, rfl, p, L, 81 + 47 * i + 10 + 34, v, t, rfl, p2', by omega, tt.mono (hide_kp k2'), tN, dt, tabs_pen pt' T5 k2', fun G3 k3' p3' T3' => ⟨true, rfl, iteF ?_⟩⟩
      have e : 81 + 47 * (i + 1) = 81 + 47 * i + 10 + 34 + 3 := by omega
      refine ⟨_, _, rfl, by rw [e]; exact p3', k3' _ _ nb (k2' _ _ nb hb1) (fun _ z => nomatch z), T3'⟩
    · rintro σ G ⟨o3, o4, rfl, pG, hbG, TG⟩
      refine Evl.q_when (b := false) (Evl.et_is (Evl.et_test (Evl.ev_op (ev_most B) Evl.ev_c (Evl.rv_ne rfl))) (by simp)) (fun z => nomatch z) (fun _ G1 e1 => ?_)
      exact ⟨.ref p, rfl, .ref b, rfl, p, L, b, 81 + 47 * 3, j.toNat + 1, ys, rfl, pG.same e1, by omega, by omega, nb, e1 _ _ hbG, hy, by omega, TG.ext e1, q⟩
end
end K04
namespace K04
open PySem PySem.Spec PyProof.Rows L2 BW LamX
section
variable {P : Program} {w : World} {K : PySem.W.Frag} {mg : Str → Option Value} {base : Heap} {r : RC} {CB CW CT g : Addr}
/-! ### the errors -/
theorem sc_br : FnScope ["self", "part"] ["self", "part"] (defScope (inClass (topS 3) 0)) := ⟨rfl, rfl, rfl, by decide +kernel, rfl, by decide +kernel, by decide +kernel⟩
theorem sc_bw : FnScope ["self", "part"] ["self", "part"] (defScope (inClass (topS 4) 0)) := ⟨rfl, rfl, rfl, by decide +kernel, rfl, by decide +kernel, by decide +kernel⟩
theorem sc_bt : FnScope ["self", "line", "item"] ["self", "line", "item"] (defScope (inClass (topS 5) 0)) := ⟨rfl, rfl, rfl, by decide +kernel, rfl, by decide +kernel, by decide +kernel⟩
theorem ok_br {f : Addr} {fd : FuncData} {k : Nat} (F : Fun K "__init__" "BadRegion.__init__" (inClass (topS 3) 0) f fd) : FnOk P w K mg base CX0 (k + 1) f fd ["self", "part"] (spI1 K "part") := by
  refine F.ok sc_br (fun vs H Q E h => ?_) (fun cdv A outer s H vs Q E hr h => ?_)
  · obtain ⟨a, C, x, rfl, _⟩ := h
    rfl
  · obtain ⟨a, C, x, rfl, O, no, ha, q⟩ := h
    refine ⟨_, pss_one (ps_ost (pv 0) (pv 1)), ?_⟩
    refine ⟨x, rfl, .ref a, rfl, a, C, rfl, O, no, .inl ⟨ha, fun d nd ne => ?_⟩⟩
    exact q d _ nd ne (fun b o hb h => by rw [upd_ne hb, upd_ne (ne_of_none h nd)]; exact h) upd_same (by rw [upd_ne ne, upd_same])
theorem ok_bw {f : Addr} {fd : FuncData} {k : Nat} (F : Fun K "__init__" "BadWorld.__init__" (inClass (topS 4) 0) f fd) : FnOk P w K mg base CX0 (k + 1) f fd ["self", "part"] (spI1 K "part") := by
  refine F.ok sc_bw (fun vs H Q E h => ?_) (fun cdv A outer s H vs Q E hr h => ?_)
  · obtain ⟨a, C, x, rfl, _⟩ := h
    rfl
  · obtain ⟨a, C, x, rfl, O, no, ha, q⟩ := h
    refine ⟨_, pss_one (ps_ost (pv 0) (pv 1)), ?_⟩
    refine ⟨x, rfl, .ref a, rfl, a, C, rfl, O, no, .inl ⟨ha, fun d nd ne => ?_⟩⟩
    exact q d _ nd ne (fun b o hb h => by rw [upd_ne hb, upd_ne (ne_of_none h nd)]; exact h) upd_same (by rw [upd_ne ne, upd_same])
theorem ok_BadText {f : Addr} {fd : FuncData} {k : Nat} (F : Fun K "__init__" "BadText.__init__" (inClass (topS 5) 0) f fd) : FnOk P w K mg base CX0 (k + 1) f fd ["self", "line", "item"] (spI2 K "line" "item") := by
  refine F.ok sc_bt (fun vs H Q E h => ?_) (fun cdv A outer s H vs Q E hr h => ?_)
  · obtain ⟨a, C, x, y, rfl, _⟩ := h
    rfl
  · obtain ⟨a, C, x, y, rfl, O, no, no', ha, q⟩ := h
    refine ⟨_, pss_cons (ps_ost (pv 0) (pv 1)) (pss_one (ps_ost (pv 0) (pv 2))), ?_⟩
    refine ⟨x, rfl, .ref a, rfl, a, C, rfl, O, no, .inl ⟨ha, fun d nd ne => ?_⟩⟩
    refine ⟨y, rfl, .ref a, rfl, a, C, rfl, O, no', .inr ⟨d, _, upd_same, (by rw [upd_ne ne, upd_same]), (by show 1 ≤ 900; decide), ?_⟩⟩
    exact q d _ nd ne (fun b o hb h => by rw [upd_ne (ne_of_none h nd), upd_ne hb, upd_ne (ne_of_none h nd)]; exact h) (by rw [upd_ne ne.symm, upd_same]) upd_same
/-! ### the four classes -/
def clsP (K : PySem.W.Frag) (C : Addr) : Bool :=
  PySem.W.plainGet K C Str.empty && (PySem.W.hasDictIn K C && (PySem.W.plainOver K C && (decide (PySem.W.findIn K (.ref C) "__setattr__" = some (some (.builtin "object.__setattr__"))) && ((attrs5.all fun f => decide (PySem.W.findIn K (.ref C) f = some none)) &&
  (decide (PySem.W.findIn K (.ref C) "__class__" = some (some (.builtin "object.__class__"))) && (decide (PySem.W.mroIn K C (.type "object") = some true) && ((kinds7.all fun U => decide (PySem.W.kitOne K (.type U) (.ref C) = some false)) &&
  (decide (PySem.W.kitOne K (.ref C) (.type "str") = some false) && (PySem.W.notFirst K C (.type "str") && (PySem.W.makesIn K C && (PySem.W.keepIn K (.ref C) && decide (PySem.W.findIn K (.ref C) "__format__" = some (some (.builtin "object.__format__"))))))))))))))
def pairB (K : PySem.W.Frag) (C D : Addr) : Bool := decide (PySem.W.kitOne K (.ref C) (.ref D) = some (decide (C = D))) && PySem.W.notFirst K C (.ref D)
structure ClsP (K : PySem.W.Frag) (C : Addr) : Prop where
  cl : Cls K C
  na : ∀ f ∈ attrs5, NoAttr K C f
  ca : PySem.W.findIn K (.ref C) "__class__" = some (some (.builtin "object.__class__"))
  mo : PySem.W.mroIn K C (.type "object") = some true
  kT : ∀ U ∈ kinds7, PySem.W.kitOne K (.type U) (.ref C) = some false
  kS : PySem.W.kitOne K (.ref C) (.type "str") = some false
  nS : PySem.W.notFirst K C (.type "str") = true
  mkI : PySem.W.makesIn K C = true
  kp : PySem.W.keepIn K (.ref C) = true
  fm : FmtC K C
theorem clsP_ok {C : Addr} (h : clsP K C = true) : ClsP K C := by
  unfold clsP at h
  simp only [Bool.and_eq_true, decide_eq_true_eq, List.all_eq_true] at h
  obtain ⟨h1, h2, h3, h4, h5, h6, h7, h8, h9, h10, h11, h12, h13⟩ := h
  exact ⟨⟨h1, h2, h3, h4⟩, h5, h6, h7, h8, h9, h10, h11, h12, ⟨h13, h7⟩⟩
theorem rg_all {p : Addr → Prop} (hL : p r.L) (hS : p r.S) (hC : p r.C) (hR : p r.R) : ∀ C, IsRg r C → p C := fun C h => by
  rcases h with rfl | rfl | rfl | rfl
  · exact hL
  · exact hS
  · exact hC
  · exact hR
theorem pair_ok {C D : Addr} (h : pairB K C D = true) : PySem.W.kitOne K (.ref C) (.ref D) = some (decide (C = D)) ∧ PySem.W.notFirst K C (.ref D) = true := by
  unfold pairB at h
  rw [Bool.and_eq_true] at h
  exact ⟨of_decide_eq_true h.1, h.2⟩
def pairsB (K : PySem.W.Frag) (r : RC) : Bool := [r.L, r.S, r.C, r.R].all fun C => [r.L, r.S, r.C, r.R].all fun D => pairB K C D
theorem rg_mem {C : Addr} (h : IsRg r C) : C ∈ [r.L, r.S, r.C, r.R] := by
  rcases h with rfl | rfl | rfl | rfl <;> simp
theorem rgK_mk (cL : ClsP K r.L) (cS : ClsP K r.S) (cC : ClsP K r.C) (cR : ClsP K r.R) (hp : pairsB K r = true) (hn : PySem.W.specialIn K (.builtin "object.__class__") "__get__" = some (some (.builtin "getset_descriptor.__get__"))) (tk : PySem.W.takesIn K (.builtin "object.__class__") = some true)
    (ne : r.L ≠ r.S ∧ r.L ≠ r.C ∧ r.L ≠ r.R ∧ r.S ≠ r.C ∧ r.S ≠ r.R ∧ r.C ≠ r.R) : RgK K r := by
  have all : ∀ C, IsRg r C → ClsP K C := rg_all cL cS cC cR
  have pr : ∀ C D, IsRg r C → IsRg r D → pairB K C D = true := fun C D hC hD => List.all_eq_true.mp (List.all_eq_true.mp hp C (rg_mem hC)) D (rg_mem hD)
  exact ⟨fun C h => (all C h).cl, fun C h => (all C h).na, fun C h => (all C h).ca, hn, tk, fun C h => (all C h).mo, fun C D hC hD => (pair_ok (pr C D hC hD)).1, fun U hU D hD => (all D hD).kT U hU, fun C h => (all C h).kS, fun C D hC hD => (pair_ok (pr C D hC hD)).2, fun C h => (all C h).nS, ne⟩
/-! ### methods by their classes -/
theorem md_mono {CX : CXT} {j k : Nat} {m : Str} {C : Addr} {sp : Sp} (h : Md P w K mg base CX j m C sp) (e : j ≤ k) : Md P w K mg base CX k m C sp := ⟨h.cl, let ⟨f, fd, ps, a, b, c⟩ := h.ex; ⟨f, fd, ps, a, b.mono e, c⟩⟩
theorem mdK_mono {CX : CXT} {j k : Nat} {m : Str} {ks : List Str} {C : Addr} {sp : Sp} (h : MdK P w K mg base CX j m ks C sp) (e : j ≤ k) : MdK P w K mg base CX k m ks C sp := ⟨h.cl, let ⟨f, fd, ps, a, b, c⟩ := h.ex; ⟨f, fd, ps, a, b.mono e, c⟩⟩
theorem df_mono {j k : Nat} {nm : Str} {ps : List Str} {sp : Sp} {f : Addr} {fd : FuncData} (D : Df P w K mg base j nm ps sp f fd) (h : j ≤ k) : Df P w K mg base k nm ps sp f fd := ⟨D.ok.mono h, D.b, D.g, D.kp⟩
theorem cov_mono {j k d : Nat} (h : CovAt P w K mg base r j d) (e : j ≤ k) : CovAt P w K mg base r k d := fun C sp hR => md_mono (h C sp hR) e
theorem eq_mono {j k d : Nat} (h : EqAt P w K mg base r j d) (e : j ≤ k) : EqAt P w K mg base r k d := fun C sp hR => md_mono (h C sp hR) e
theorem str_mono {j k d : Nat} (h : StrAt P w K mg base r j d) (e : j ≤ k) : StrAt P w K mg base r k d := fun C sp hR => ⟨md_mono (h C sp hR).1 e, (h C sp hR).2⟩
theorem over_mono {j k : Nat} (h : OverAt P w K mg base r CW j) (e : j ≤ k) : OverAt P w K mg base r CW k := fun C sp hR => ⟨md_mono (h C sp hR).1 e, mdK_mono (h C sp hR).2 e⟩
theorem mks_mono {j j' k k' : Nat} (h : Mks P w K mg base r CB j k) (e : j ≤ j') (e' : k ≤ k') : Mks P w K mg base r CB j' k' := ⟨let ⟨f, fd, a, b, c⟩ := h.L; ⟨f, fd, a, b.mono e, c⟩, fun s => let ⟨f, fd, a, b, c⟩ := h.M s; ⟨f, fd, a, b.mono e', c⟩⟩
/-- a def of a class, as its method -/
def MF (K : PySem.W.Frag) (C : Addr) (m q : Str) (st : Stmt) (ps : List Str) : Prop := ∃ f fd, Meth K C m f ∧ Fun K m q st f fd ∧ Binds K fd ps []
theorem no_node {C : Addr} {t : Tr} (T : RgK K r) {s : Sg} (h : r.at t = r.of s) (hd : t.depth ≤ 0) : False := by
  obtain ⟨a, b, rfl⟩ := T.node h
  have : 1 + max a.depth b.depth ≤ 0 := hd
  omega
theorem covAt (T : RgK K r) (hL : MF K r.L "covers" "Land.covers" (cLand 1) ["self", "cell"]) (hS : MF K r.S "covers" "Sum.covers" (cSum 0) ["self", "cell"]) (hC : MF K r.C "covers" "Common.covers" (cCom 0) ["self", "cell"]) (hR : MF K r.R "covers" "Rest.covers" (cRes 0) ["self", "cell"]) :
    ∀ d, CovAt P w K mg base r (d + 1) d
  | 0 => fun C sp ⟨hI, e⟩ => by
    subst e
    refine ⟨T.cl C hI, ?_⟩
    rcases hI with rfl | rfl | rfl | rfl
    · obtain ⟨f, fd, m, F, b⟩ := hL
      exact ⟨f, fd, _, m, ok_covL T F, b⟩
    · obtain ⟨f, fd, m, F, b⟩ := hS
      exact ⟨f, fd, _, m, fn_false.imp fun vs H Q E ⟨x, c, t, cs, _, _, h1, h2, _⟩ => no_node (C := r.S) T (s := .plus) h1 h2, b⟩
    · obtain ⟨f, fd, m, F, b⟩ := hC
      exact ⟨f, fd, _, m, fn_false.imp fun vs H Q E ⟨x, c, t, cs, _, _, h1, h2, _⟩ => no_node (C := r.S) T (s := .star) h1 h2, b⟩
    · obtain ⟨f, fd, m, F, b⟩ := hR
      exact ⟨f, fd, _, m, fn_false.imp fun vs H Q E ⟨x, c, t, cs, _, _, h1, h2, _⟩ => no_node (C := r.S) T (s := .minus) h1 h2, b⟩
  | d + 1 => fun C sp ⟨hI, e⟩ => by
    subst e
    have ih := covAt T hL hS hC hR d
    refine ⟨T.cl C hI, ?_⟩
    rcases hI with rfl | rfl | rfl | rfl
    · obtain ⟨f, fd, m, F, b⟩ := hL
      exact ⟨f, fd, _, m, ok_covL T F, b⟩
    · obtain ⟨f, fd, m, F, b⟩ := hS
      exact ⟨f, fd, _, m, ok_covS T ih F, b⟩
    · obtain ⟨f, fd, m, F, b⟩ := hC
      exact ⟨f, fd, _, m, ok_covC T ih F, b⟩
    · obtain ⟨f, fd, m, F, b⟩ := hR
      exact ⟨f, fd, _, m, ok_covR T ih F, b⟩
theorem eqAt (X : Tx mg) (T : RgK K r) (G : RgG mg r) (hL : MF K r.L "__eq__" "Land.__eq__" (cLand 4) ["self", "other"]) (hS : MF K r.S "__eq__" "Sum.__eq__" (cSum 3) ["self", "other"]) (hC : MF K r.C "__eq__" "Common.__eq__" (cCom 3) ["self", "other"]) (hR : MF K r.R "__eq__" "Rest.__eq__" (cRes 3) ["self", "other"]) :
    ∀ d, EqAt P w K mg base r (d + 1) d
  | 0 => fun C sp ⟨hI, e⟩ => by
    subst e
    refine ⟨T.cl C hI, ?_⟩
    rcases hI with rfl | rfl | rfl | rfl
    · obtain ⟨f, fd, m, F, b⟩ := hL
      exact ⟨f, fd, _, m, ok_eqL X T G F, b⟩
    · obtain ⟨f, fd, m, F, b⟩ := hS
      exact ⟨f, fd, _, m, fn_false.imp fun vs H Q E ⟨x, y, t, o, _, _, h1, h2, _⟩ => no_node (C := r.S) T (s := .plus) h1 h2, b⟩
    · obtain ⟨f, fd, m, F, b⟩ := hC
      exact ⟨f, fd, _, m, fn_false.imp fun vs H Q E ⟨x, y, t, o, _, _, h1, h2, _⟩ => no_node (C := r.S) T (s := .star) h1 h2, b⟩
    · obtain ⟨f, fd, m, F, b⟩ := hR
      exact ⟨f, fd, _, m, fn_false.imp fun vs H Q E ⟨x, y, t, o, _, _, h1, h2, _⟩ => no_node (C := r.S) T (s := .minus) h1 h2, b⟩
  | d + 1 => fun C sp ⟨hI, e⟩ => by
    subst e
    have ih := eqAt X T G hL hS hC hR d
    refine ⟨T.cl C hI, ?_⟩
    rcases hI with rfl | rfl | rfl | rfl
    · obtain ⟨f, fd, m, F, b⟩ := hL
      exact ⟨f, fd, _, m, ok_eqL X T G F, b⟩
    · obtain ⟨f, fd, m, F, b⟩ := hS
      exact ⟨f, fd, _, m, ok_eqS X T G ih F, b⟩
    · obtain ⟨f, fd, m, F, b⟩ := hC
      exact ⟨f, fd, _, m, ok_eqC X T G ih F, b⟩
    · obtain ⟨f, fd, m, F, b⟩ := hR
      exact ⟨f, fd, _, m, ok_eqR X T G ih F, b⟩
theorem strAt (X : Tx mg) (T : RgK K r) (fm : ∀ C, IsRg r C → FmtC K C) (hL : MF K r.L "__str__" "Land.__str__" (cLand 5) ["self"]) (hS : MF K r.S "__str__" "Sum.__str__" (cSum 4) ["self"]) (hC : MF K r.C "__str__" "Common.__str__" (cCom 4) ["self"]) (hR : MF K r.R "__str__" "Rest.__str__" (cRes 4) ["self"]) :
    ∀ d, StrAt P w K mg base r (2 * d + 1) d
  | 0 => fun C sp ⟨hI, e⟩ => by
    subst e
    refine ⟨⟨T.cl C hI, ?_⟩, fm C hI⟩
    rcases hI with rfl | rfl | rfl | rfl
    · obtain ⟨f, fd, m, F, b⟩ := hL
      exact ⟨f, fd, _, m, ok_strL X T F, b⟩
    · obtain ⟨f, fd, m, F, b⟩ := hS
      exact ⟨f, fd, _, m, fn_false.imp fun vs H Q E ⟨x, t, _, _, h1, h2, _⟩ => no_node (C := r.S) T (s := .plus) h1 h2, b⟩
    · obtain ⟨f, fd, m, F, b⟩ := hC
      exact ⟨f, fd, _, m, fn_false.imp fun vs H Q E ⟨x, t, _, _, h1, h2, _⟩ => no_node (C := r.S) T (s := .star) h1 h2, b⟩
    · obtain ⟨f, fd, m, F, b⟩ := hR
      exact ⟨f, fd, _, m, fn_false.imp fun vs H Q E ⟨x, t, _, _, h1, h2, _⟩ => no_node (C := r.S) T (s := .minus) h1 h2, b⟩
  | d + 1 => fun C sp ⟨hI, e⟩ => by
    subst e
    have ih := strAt X T fm hL hS hC hR d
    refine ⟨⟨T.cl C hI, ?_⟩, fm C hI⟩
    rcases hI with rfl | rfl | rfl | rfl
    · obtain ⟨f, fd, m, F, b⟩ := hL
      exact ⟨f, fd, _, m, ok_strL X T F, b⟩
    · obtain ⟨f, fd, m, F, b⟩ := hS
      exact ⟨f, fd, _, m, ok_strS (k := 2 * d) T ih F, b⟩
    · obtain ⟨f, fd, m, F, b⟩ := hC
      exact ⟨f, fd, _, m, ok_strC (k := 2 * d) T ih F, b⟩
    · obtain ⟨f, fd, m, F, b⟩ := hR
      exact ⟨f, fd, _, m, ok_strR (k := 2 * d) T ih F, b⟩
def MFK (K : PySem.W.Frag) (C : Addr) (m q : Str) (st : Stmt) (ps ks : List Str) : Prop := ∃ f fd, Meth K C m f ∧ Fun K m q st f fd ∧ Binds K fd ps [] ∧ KBn K fd ps 1 ks (fun us ws => us ++ ws) (fun vs zs => vs ++ zs)
theorem overAt {k : Nat} {fC : Addr} {fdC : FuncData} (T : RgK K r) (D : CovAt P w K mg base r (k + 1) 2) (RC : FnOk P w K mg base (L2.CX P w) (k + 1) fC fdC ["value", "part"] (spReqCell CW)) (bC : Binds K fdC ["value", "part"] []) (gC : mg "require_cell" = some (.ref fC)) (kC : PySem.W.keepIn K (.ref fC) = true)
    (hL : MFK K r.L "is_over" "Land.is_over" (cLand 2) ["self", "cell"] ["cell"]) (hS : MFK K r.S "is_over" "Sum.is_over" (cSum 1) ["self", "cell"] ["cell"]) (hC : MFK K r.C "is_over" "Common.is_over" (cCom 1) ["self", "cell"] ["cell"]) (hR : MFK K r.R "is_over" "Rest.is_over" (cRes 1) ["self", "cell"] ["cell"]) :
    OverAt P w K mg base r CW (k + 2) := fun C sp ⟨hI, e⟩ => by
  subst e
  rcases hI with rfl | rfl | rfl | rfl
  · obtain ⟨f, fd, m, F, b, kb⟩ := hL
    have ok := ok_ovL D RC bC gC kC F
    exact ⟨⟨T.cl _ (.inl rfl), f, fd, _, m, ok, b⟩, ⟨T.cl _ (.inl rfl), f, fd, _, m, ok, kb⟩⟩
  · obtain ⟨f, fd, m, F, b, kb⟩ := hS
    have ok := ok_ovS D RC bC gC kC F
    exact ⟨⟨T.cl _ (.inr (.inl rfl)), f, fd, _, m, ok, b⟩, ⟨T.cl _ (.inr (.inl rfl)), f, fd, _, m, ok, kb⟩⟩
  · obtain ⟨f, fd, m, F, b, kb⟩ := hC
    have ok := ok_ovC D RC bC gC kC F
    exact ⟨⟨T.cl _ (.inr (.inr (.inl rfl))), f, fd, _, m, ok, b⟩, ⟨T.cl _ (.inr (.inr (.inl rfl))), f, fd, _, m, ok, kb⟩⟩
  · obtain ⟨f, fd, m, F, b, kb⟩ := hR
    have ok := ok_ovR D RC bC gC kC F
    exact ⟨⟨T.cl _ (.inr (.inr (.inr rfl))), f, fd, _, m, ok, b⟩, ⟨T.cl _ (.inr (.inr (.inr rfl))), f, fd, _, m, ok, kb⟩⟩
end
end K04
namespace K04
open PySem PySem.Spec PyProof.Rows L2 BW LamX
def ersB (K : PySem.W.Frag) (CE CB CW CT : Addr) : Bool :=
  ([CB, CW, CT].all fun C => decide (PySem.W.exmOne K (.ref C) (.ref CE) = some true) && (decide (PySem.W.kitOne K (.type "NoneType") (.ref C) = some false) && decide (PySem.W.kitOne K (.ref C) (.ref C) = some true))) &&
  (decide (PySem.W.kitOne K (.ref CW) (.ref CB) = some false) && (decide (PySem.W.kitOne K (.ref CT) (.ref CB) = some false) && decide (PySem.W.kitOne K (.ref CT) (.ref CW) = some false)))
theorem all_mk {l : PySem.W.OpenLaw} {w : World} {K : PySem.W.Frag} {h : Heap} {mg : Str → Option Value} {fa c1 c2 : Addr} (Pt1 Pt2 : Addr) (X0 : K.In h) (G0 : h.Ns mainGlobals mg) (hfa : mg "law" = some (.ref fa))
    (hT1 : h.get? Pt1 = some { cls := .none, data := .fields #[] }) (hT2 : h.get? Pt2 = some { cls := .none, data := .fields #[] }) (hne : Pt1 ≠ Pt2) (nT1 : K.lookup Pt1 = none) (nT2 : K.lookup Pt2 = none) (hh1 : PySem.W.codeHdIn K c1 Pt1 = true) (hh2 : PySem.W.codeHdIn K c2 Pt2 = true)
    {CB : Addr} {nmB qB : Str} {NB : Addr} {bsB bmB : List Value} {snB : List Str} {sbB : List Value} {abB : Bool} {clB : Option Bool} {ddB : Option Addr} {kaB kbB kcB kdB keB : Option Value}
    (aB : PySem.W.nsIn K mainGlobals "BadRegion" = some (some (.ref CB)))
    (oB : K.lookup CB = some (excClassObj nmB qB CB NB bsB bmB true snB sbB abB clB ddB kaB kbB kcB kdB keB "ValueError.__new__"))
    (rB : PySem.HandSPX.refsVE bmB = true)
    (bB : clsB K CB ["part"] = true)
    {fXB : Addr}
    (iB : PySem.W.findIn K (.ref CB) "__init__" = some (some (.ref fXB)))
    {vdXB vnXB : Option Addr} {vsXB : Array (Option Value)} {voXB vkXB vcXB vpXB veXB vtXB : Value}
    (flXB : K.lookup fXB = some ⟨voXB, vdXB, .func (PySem.W.fnOf "__init__" "BadRegion.__init__" (defArgs (inClass (topS 3) 0)) (defBody (inClass (topS 3) 0)) (defScope (inClass (topS 3) 0)) .none vkXB vcXB vpXB vnXB veXB vtXB), vsXB⟩)
    (fcXB : PySem.W.codeIn K veXB "BadRegion.__init__" = true)
    (fkXB : PySem.W.keepIn K (.ref fXB) = true)
    (tB : PySem.W.typeIn K (.ref fXB) = some (.type "function"))
    {CW : Addr} {nmW qW : Str} {NW : Addr} {bsW bmW : List Value} {snW : List Str} {sbW : List Value} {abW : Bool} {clW : Option Bool} {ddW : Option Addr} {kaW kbW kcW kdW keW : Option Value}
    (aW : PySem.W.nsIn K mainGlobals "BadWorld" = some (some (.ref CW)))
    (oW : K.lookup CW = some (excClassObj nmW qW CW NW bsW bmW true snW sbW abW clW ddW kaW kbW kcW kdW keW "ValueError.__new__"))
    (rW : PySem.HandSPX.refsVE bmW = true)
    (bW : clsB K CW ["part"] = true)
    {fXW : Addr}
    (iW : PySem.W.findIn K (.ref CW) "__init__" = some (some (.ref fXW)))
    {vdXW vnXW : Option Addr} {vsXW : Array (Option Value)} {voXW vkXW vcXW vpXW veXW vtXW : Value}
    (flXW : K.lookup fXW = some ⟨voXW, vdXW, .func (PySem.W.fnOf "__init__" "BadWorld.__init__" (defArgs (inClass (topS 4) 0)) (defBody (inClass (topS 4) 0)) (defScope (inClass (topS 4) 0)) .none vkXW vcXW vpXW vnXW veXW vtXW), vsXW⟩)
    (fcXW : PySem.W.codeIn K veXW "BadWorld.__init__" = true)
    (fkXW : PySem.W.keepIn K (.ref fXW) = true)
    (tW : PySem.W.typeIn K (.ref fXW) = some (.type "function"))
    {CT : Addr} {nmT qT : Str} {NT : Addr} {bsT bmT : List Value} {snT : List Str} {sbT : List Value} {abT : Bool} {clT : Option Bool} {ddT : Option Addr} {kaT kbT kcT kdT keT : Option Value}
    (aT : PySem.W.nsIn K mainGlobals "BadText" = some (some (.ref CT)))
    (oT : K.lookup CT = some (excClassObj nmT qT CT NT bsT bmT true snT sbT abT clT ddT kaT kbT kcT kdT keT "ValueError.__new__"))
    (rT : PySem.HandSPX.refsVE bmT = true)
    (bT : clsB K CT ["line", "item"] = true)
    {fXT : Addr}
    (iT : PySem.W.findIn K (.ref CT) "__init__" = some (some (.ref fXT)))
    {vdXT vnXT : Option Addr} {vsXT : Array (Option Value)} {voXT vkXT vcXT vpXT veXT vtXT : Value}
    (flXT : K.lookup fXT = some ⟨voXT, vdXT, .func (PySem.W.fnOf "__init__" "BadText.__init__" (defArgs (inClass (topS 5) 0)) (defBody (inClass (topS 5) 0)) (defScope (inClass (topS 5) 0)) .none vkXT vcXT vpXT vnXT veXT vtXT), vsXT⟩)
    (fcXT : PySem.W.codeIn K veXT "BadText.__init__" = true)
    (fkXT : PySem.W.keepIn K (.ref fXT) = true)
    (tT : PySem.W.typeIn K (.ref fXT) = some (.type "function"))
    {CE : Addr}
    (aE : PySem.W.nsIn K mainGlobals "WordsError" = some (some (.ref CE)))
    (eB : ersB K CE CB CW CT = true)
    (hn0 : PySem.W.specialIn K (.builtin "object.__class__") "__get__" = some (some (.builtin "getset_descriptor.__get__")))
    (ht0 : PySem.W.takesIn K (.builtin "object.__class__") = some true)
    {cL cS cC cR g : Addr}
    (aG : PySem.W.nsIn K mainGlobals "Region" = some (some (.ref g)))
    (acL : PySem.W.nsIn K mainGlobals "Land" = some (some (.ref cL)))
    (acS : PySem.W.nsIn K mainGlobals "Sum" = some (some (.ref cS)))
    (acC : PySem.W.nsIn K mainGlobals "Common" = some (some (.ref cC)))
    (acR : PySem.W.nsIn K mainGlobals "Rest" = some (some (.ref cR)))
    (pcL : clsP K cL = true)
    (pcS : clsP K cS = true)
    (pcC : clsP K cC = true)
    (pcR : clsP K cR = true)
    (pp : pairsB K ⟨cL, cS, cC, cR⟩ = true)
    (kg : ([cL, cS, cC, cR].all fun C => decide (PySem.W.kitOne K (.ref C) (.ref g) = some true)) = true)
    (ne : cL ≠ cS ∧ cL ≠ cC ∧ cL ≠ cR ∧ cS ≠ cC ∧ cS ≠ cR ∧ cC ≠ cR)
    {fLc : Addr}
    (iLc : PySem.W.findIn K (.ref cL) "covers" = some (some (.ref fLc)))
    {vdLc vnLc : Option Addr} {vsLc : Array (Option Value)} {voLc vkLc vcLc vpLc veLc vtLc : Value}
    (flLc : K.lookup fLc = some ⟨voLc, vdLc, .func (PySem.W.fnOf "covers" "Land.covers" (defArgs (cLand 1)) (defBody (cLand 1)) (defScope (cLand 1)) .none vkLc vcLc vpLc vnLc veLc vtLc), vsLc⟩)
    (fcLc : PySem.W.codeIn K veLc "Land.covers" = true)
    (fkLc : PySem.W.keepIn K (.ref fLc) = true)
    (yLc : PySem.W.isFn K (.ref fLc) = true)
    {fLo : Addr}
    (iLo : PySem.W.findIn K (.ref cL) "is_over" = some (some (.ref fLo)))
    {vdLo vnLo : Option Addr} {vsLo : Array (Option Value)} {voLo vkLo vcLo vpLo veLo vtLo : Value}
    (flLo : K.lookup fLo = some ⟨voLo, vdLo, .func (PySem.W.fnOf "is_over" "Land.is_over" (defArgs (cLand 2)) (defBody (cLand 2)) (defScope (cLand 2)) .none vkLo vcLo vpLo vnLo veLo vtLo), vsLo⟩)
    (fcLo : PySem.W.codeIn K veLo "Land.is_over" = true)
    (fkLo : PySem.W.keepIn K (.ref fLo) = true)
    (yLo : PySem.W.isFn K (.ref fLo) = true)
    {fLe : Addr}
    (iLe : PySem.W.findIn K (.ref cL) "__eq__" = some (some (.ref fLe)))
    {vdLe vnLe : Option Addr} {vsLe : Array (Option Value)} {voLe vkLe vcLe vpLe veLe vtLe : Value}
    (flLe : K.lookup fLe = some ⟨voLe, vdLe, .func (PySem.W.fnOf "__eq__" "Land.__eq__" (defArgs (cLand 4)) (defBody (cLand 4)) (defScope (cLand 4)) .none vkLe vcLe vpLe vnLe veLe vtLe), vsLe⟩)
    (fcLe : PySem.W.codeIn K veLe "Land.__eq__" = true)
    (fkLe : PySem.W.keepIn K (.ref fLe) = true)
    (yLe : PySem.W.isFn K (.ref fLe) = true)
    {fLs : Addr}
    (iLs : PySem.W.findIn K (.ref cL) "__str__" = some (some (.ref fLs)))
    {vdLs vnLs : Option Addr} {vsLs : Array (Option Value)} {voLs vkLs vcLs vpLs veLs vtLs : Value}
    (flLs : K.lookup fLs = some ⟨voLs, vdLs, .func (PySem.W.fnOf "__str__" "Land.__str__" (defArgs (cLand 5)) (defBody (cLand 5)) (defScope (cLand 5)) .none vkLs vcLs vpLs vnLs veLs vtLs), vsLs⟩)
    (fcLs : PySem.W.codeIn K veLs "Land.__str__" = true)
    (fkLs : PySem.W.keepIn K (.ref fLs) = true)
    (yLs : PySem.W.isFn K (.ref fLs) = true)
    {fSc : Addr}
    (iSc : PySem.W.findIn K (.ref cS) "covers" = some (some (.ref fSc)))
    {vdSc vnSc : Option Addr} {vsSc : Array (Option Value)} {voSc vkSc vcSc vpSc veSc vtSc : Value}
    (flSc : K.lookup fSc = some ⟨voSc, vdSc, .func (PySem.W.fnOf "covers" "Sum.covers" (defArgs (cSum 0)) (defBody (cSum 0)) (defScope (cSum 0)) .none vkSc vcSc vpSc vnSc veSc vtSc), vsSc⟩)
    (fcSc : PySem.W.codeIn K veSc "Sum.covers" = true)
    (fkSc : PySem.W.keepIn K (.ref fSc) = true)
    (ySc : PySem.W.isFn K (.ref fSc) = true)
    {fSo : Addr}
    (iSo : PySem.W.findIn K (.ref cS) "is_over" = some (some (.ref fSo)))
    {vdSo vnSo : Option Addr} {vsSo : Array (Option Value)} {voSo vkSo vcSo vpSo veSo vtSo : Value}
    (flSo : K.lookup fSo = some ⟨voSo, vdSo, .func (PySem.W.fnOf "is_over" "Sum.is_over" (defArgs (cSum 1)) (defBody (cSum 1)) (defScope (cSum 1)) .none vkSo vcSo vpSo vnSo veSo vtSo), vsSo⟩)
    (fcSo : PySem.W.codeIn K veSo "Sum.is_over" = true)
    (fkSo : PySem.W.keepIn K (.ref fSo) = true)
    (ySo : PySem.W.isFn K (.ref fSo) = true)
    {fSe : Addr}
    (iSe : PySem.W.findIn K (.ref cS) "__eq__" = some (some (.ref fSe)))
    {vdSe vnSe : Option Addr} {vsSe : Array (Option Value)} {voSe vkSe vcSe vpSe veSe vtSe : Value}
    (flSe : K.lookup fSe = some ⟨voSe, vdSe, .func (PySem.W.fnOf "__eq__" "Sum.__eq__" (defArgs (cSum 3)) (defBody (cSum 3)) (defScope (cSum 3)) .none vkSe vcSe vpSe vnSe veSe vtSe), vsSe⟩)
    (fcSe : PySem.W.codeIn K veSe "Sum.__eq__" = true)
    (fkSe : PySem.W.keepIn K (.ref fSe) = true)
    (ySe : PySem.W.isFn K (.ref fSe) = true)
    {fSs : Addr}
    (iSs : PySem.W.findIn K (.ref cS) "__str__" = some (some (.ref fSs)))
    {vdSs vnSs : Option Addr} {vsSs : Array (Option Value)} {voSs vkSs vcSs vpSs veSs vtSs : Value}
    (flSs : K.lookup fSs = some ⟨voSs, vdSs, .func (PySem.W.fnOf "__str__" "Sum.__str__" (defArgs (cSum 4)) (defBody (cSum 4)) (defScope (cSum 4)) .none vkSs vcSs vpSs vnSs veSs vtSs), vsSs⟩)
    (fcSs : PySem.W.codeIn K veSs "Sum.__str__" = true)
    (fkSs : PySem.W.keepIn K (.ref fSs) = true)
    (ySs : PySem.W.isFn K (.ref fSs) = true)
    {fCc : Addr}
    (iCc : PySem.W.findIn K (.ref cC) "covers" = some (some (.ref fCc)))
    {vdCc vnCc : Option Addr} {vsCc : Array (Option Value)} {voCc vkCc vcCc vpCc veCc vtCc : Value}
    (flCc : K.lookup fCc = some ⟨voCc, vdCc, .func (PySem.W.fnOf "covers" "Common.covers" (defArgs (cCom 0)) (defBody (cCom 0)) (defScope (cCom 0)) .none vkCc vcCc vpCc vnCc veCc vtCc), vsCc⟩)
    (fcCc : PySem.W.codeIn K veCc "Common.covers" = true)
    (fkCc : PySem.W.keepIn K (.ref fCc) = true)
    (yCc : PySem.W.isFn K (.ref fCc) = true)
    {fCo : Addr}
    (iCo : PySem.W.findIn K (.ref cC) "is_over" = some (some (.ref fCo)))
    {vdCo vnCo : Option Addr} {vsCo : Array (Option Value)} {voCo vkCo vcCo vpCo veCo vtCo : Value}
    (flCo : K.lookup fCo = some ⟨voCo, vdCo, .func (PySem.W.fnOf "is_over" "Common.is_over" (defArgs (cCom 1)) (defBody (cCom 1)) (defScope (cCom 1)) .none vkCo vcCo vpCo vnCo veCo vtCo), vsCo⟩)
    (fcCo : PySem.W.codeIn K veCo "Common.is_over" = true)
    (fkCo : PySem.W.keepIn K (.ref fCo) = true)
    (yCo : PySem.W.isFn K (.ref fCo) = true)
    {fCe : Addr}
    (iCe : PySem.W.findIn K (.ref cC) "__eq__" = some (some (.ref fCe)))
    {vdCe vnCe : Option Addr} {vsCe : Array (Option Value)} {voCe vkCe vcCe vpCe veCe vtCe : Value}
    (flCe : K.lookup fCe = some ⟨voCe, vdCe, .func (PySem.W.fnOf "__eq__" "Common.__eq__" (defArgs (cCom 3)) (defBody (cCom 3)) (defScope (cCom 3)) .none vkCe vcCe vpCe vnCe veCe vtCe), vsCe⟩)
    (fcCe : PySem.W.codeIn K veCe "Common.__eq__" = true)
    (fkCe : PySem.W.keepIn K (.ref fCe) = true)
    (yCe : PySem.W.isFn K (.ref fCe) = true)
    {fCs : Addr}
    (iCs : PySem.W.findIn K (.ref cC) "__str__" = some (some (.ref fCs)))
    {vdCs vnCs : Option Addr} {vsCs : Array (Option Value)} {voCs vkCs vcCs vpCs veCs vtCs : Value}
    (flCs : K.lookup fCs = some ⟨voCs, vdCs, .func (PySem.W.fnOf "__str__" "Common.__str__" (defArgs (cCom 4)) (defBody (cCom 4)) (defScope (cCom 4)) .none vkCs vcCs vpCs vnCs veCs vtCs), vsCs⟩)
    (fcCs : PySem.W.codeIn K veCs "Common.__str__" = true)
    (fkCs : PySem.W.keepIn K (.ref fCs) = true)
    (yCs : PySem.W.isFn K (.ref fCs) = true)
    {fRc : Addr}
    (iRc : PySem.W.findIn K (.ref cR) "covers" = some (some (.ref fRc)))
    {vdRc vnRc : Option Addr} {vsRc : Array (Option Value)} {voRc vkRc vcRc vpRc veRc vtRc : Value}
    (flRc : K.lookup fRc = some ⟨voRc, vdRc, .func (PySem.W.fnOf "covers" "Rest.covers" (defArgs (cRes 0)) (defBody (cRes 0)) (defScope (cRes 0)) .none vkRc vcRc vpRc vnRc veRc vtRc), vsRc⟩)
    (fcRc : PySem.W.codeIn K veRc "Rest.covers" = true)
    (fkRc : PySem.W.keepIn K (.ref fRc) = true)
    (yRc : PySem.W.isFn K (.ref fRc) = true)
    {fRo : Addr}
    (iRo : PySem.W.findIn K (.ref cR) "is_over" = some (some (.ref fRo)))
    {vdRo vnRo : Option Addr} {vsRo : Array (Option Value)} {voRo vkRo vcRo vpRo veRo vtRo : Value}
    (flRo : K.lookup fRo = some ⟨voRo, vdRo, .func (PySem.W.fnOf "is_over" "Rest.is_over" (defArgs (cRes 1)) (defBody (cRes 1)) (defScope (cRes 1)) .none vkRo vcRo vpRo vnRo veRo vtRo), vsRo⟩)
    (fcRo : PySem.W.codeIn K veRo "Rest.is_over" = true)
    (fkRo : PySem.W.keepIn K (.ref fRo) = true)
    (yRo : PySem.W.isFn K (.ref fRo) = true)
    {fRe : Addr}
    (iRe : PySem.W.findIn K (.ref cR) "__eq__" = some (some (.ref fRe)))
    {vdRe vnRe : Option Addr} {vsRe : Array (Option Value)} {voRe vkRe vcRe vpRe veRe vtRe : Value}
    (flRe : K.lookup fRe = some ⟨voRe, vdRe, .func (PySem.W.fnOf "__eq__" "Rest.__eq__" (defArgs (cRes 3)) (defBody (cRes 3)) (defScope (cRes 3)) .none vkRe vcRe vpRe vnRe veRe vtRe), vsRe⟩)
    (fcRe : PySem.W.codeIn K veRe "Rest.__eq__" = true)
    (fkRe : PySem.W.keepIn K (.ref fRe) = true)
    (yRe : PySem.W.isFn K (.ref fRe) = true)
    {fRs : Addr}
    (iRs : PySem.W.findIn K (.ref cR) "__str__" = some (some (.ref fRs)))
    {vdRs vnRs : Option Addr} {vsRs : Array (Option Value)} {voRs vkRs vcRs vpRs veRs vtRs : Value}
    (flRs : K.lookup fRs = some ⟨voRs, vdRs, .func (PySem.W.fnOf "__str__" "Rest.__str__" (defArgs (cRes 4)) (defBody (cRes 4)) (defScope (cRes 4)) .none vkRs vcRs vpRs vnRs veRs vtRs), vsRs⟩)
    (fcRs : PySem.W.codeIn K veRs "Rest.__str__" = true)
    (fkRs : PySem.W.keepIn K (.ref fRs) = true)
    (yRs : PySem.W.isFn K (.ref fRs) = true)
    {fIL fIM : Addr}
    (iIL : PySem.W.findIn K (.ref cL) "__init__" = some (some (.ref fIL)))
    {vdIL vnIL : Option Addr} {vsIL : Array (Option Value)} {voIL vkIL vcIL vpIL veIL vtIL : Value}
    (flIL : K.lookup fIL = some ⟨voIL, vdIL, .func (PySem.W.fnOf "__init__" "Land.__init__" (defArgs (cLand 0)) (defBody (cLand 0)) (defScope (cLand 0)) .none vkIL vcIL vpIL vnIL veIL vtIL), vsIL⟩)
    (fcIL : PySem.W.codeIn K veIL "Land.__init__" = true)
    (fkIL : PySem.W.keepIn K (.ref fIL) = true)
    (yIL : PySem.W.isFn K (.ref fIL) = true)
    (iMS : PySem.W.findIn K (.ref cS) "__init__" = some (some (.ref fIM)))
    (iMC : PySem.W.findIn K (.ref cC) "__init__" = some (some (.ref fIM)))
    (iMR : PySem.W.findIn K (.ref cR) "__init__" = some (some (.ref fIM)))
    {vdIM vnIM : Option Addr} {vsIM : Array (Option Value)} {voIM vkIM vcIM vpIM veIM vtIM : Value}
    (flIM : K.lookup fIM = some ⟨voIM, vdIM, .func (PySem.W.fnOf "__init__" "Made.__init__" (defArgs (cMade 0)) (defBody (cMade 0)) (defScope (cMade 0)) .none vkIM vcIM vpIM vnIM veIM vtIM), vsIM⟩)
    (fcIM : PySem.W.codeIn K veIM "Made.__init__" = true)
    (fkIM : PySem.W.keepIn K (.ref fIM) = true)
    (yIM : PySem.W.isFn K (.ref fIM) = true)
    {tmd : Tok} {pR fRd : Addr} {restR : List Value}
    (rr : PySem.W.readsIn K g (.type "type") = true)
    (rg : PySem.W.specialIn K (.ref g) "__getattribute__" = some (some (.builtin "type.__getattribute__")))
    (rv : PySem.W.findCls K (.ref g) (.type "type") "MOST_DEPTH" = some (.val (.int 2 tmd)))
    (rs : PySem.W.findCls K (.ref g) (.type "type") "read" = some (.get (.builtin "staticmethod.__get__") (.ref pR) .none (.ref g)))
    (rc : PySem.W.recIn K pR "staticmethod" = some (.ref fRd :: restR))
    {vdRd vnRd : Option Addr} {vsRd : Array (Option Value)} {voRd vkRd vcRd vpRd veRd vtRd : Value}
    (flRd : K.lookup fRd = some ⟨voRd, vdRd, .func (PySem.W.fnOf "read" "Region.read" (defArgs (cReg 3)) (defBody (cReg 3)) (defScope (cReg 3)) .none vkRd vcRd vpRd vnRd veRd vtRd), vsRd⟩)
    (fcRd : PySem.W.codeIn K veRd "Region.read" = true)
    (fkRd : PySem.W.keepIn K (.ref fRd) = true)
    {fFr dT : Addr} {doc : Value} {ddT : Option Addr} {dits : Array Value} {dn : Nat} {dsl : Array (Option Value)}
    (aFr : PySem.W.nsIn K mainGlobals "region_from" = some (some (.ref fFr)))
    {vdFr vnFr : Option Addr} {vsFr : Array (Option Value)} {voFr vkFr vcFr vpFr veFr vtFr : Value}
    (flFr : K.lookup fFr = some ⟨voFr, vdFr, .func (PySem.W.fnOf "region_from" "region_from" (defArgs sFrom) (defBody sFrom) (defScope sFrom) (.ref dT) vkFr vcFr vpFr vnFr veFr vtFr), vsFr⟩)
    (fcFr : PySem.W.codeIn K veFr "region_from" = true)
    (fkFr : PySem.W.keepIn K (.ref fFr) = true)
    (dl : K.lookup dT = some ⟨doc, ddT, .seq dits dn, dsl⟩)
    (dv : Vals [.non, .int 0] dits.toList)
    {tm : Tok}
    (zm : PySem.W.nsIn K mainGlobals "MOST_SIGNS" = some (some (.int 12 tm)))
    (z_isinstance : PySem.W.nsIn K mainGlobals "isinstance" = some none)
    (z_int : PySem.W.nsIn K mainGlobals "int" = some none)
    (z_str : PySem.W.nsIn K mainGlobals "str" = some none)
    (z_bool : PySem.W.nsIn K mainGlobals "bool" = some none)
    (z_list : PySem.W.nsIn K mainGlobals "list" = some none)
    (z_tuple : PySem.W.nsIn K mainGlobals "tuple" = some none)
    (z_len : PySem.W.nsIn K mainGlobals "len" = some none)
    (z_all : PySem.W.nsIn K mainGlobals "all" = some none)
    (z_range : PySem.W.nsIn K mainGlobals "range" = some none)
    (z_max : PySem.W.nsIn K mainGlobals "max" = some none)
    (z_sorted : PySem.W.nsIn K mainGlobals "sorted" = some none)
    (z_set : PySem.W.nsIn K mainGlobals "set" = some none)
    (z_enumerate : PySem.W.nsIn K mainGlobals "enumerate" = some none)
    (z_abs : PySem.W.nsIn K mainGlobals "abs" = some none)
    {f0 : Addr}
    (fa0 : PySem.W.nsIn K mainGlobals "is_name" = some (some (.ref f0)))
    {vd0 vn0 : Option Addr} {vs0 : Array (Option Value)} {vo0 vk0 vc0 vp0 ve0 vt0 : Value}
    (fl0 : K.lookup f0 = some ⟨vo0, vd0, .func (PySem.W.fnOf "is_name" "is_name" (defArgs (topS 8)) (defBody (topS 8)) (defScope (topS 8)) .none vk0 vc0 vp0 vn0 ve0 vt0), vs0⟩)
    (fc0 : PySem.W.codeIn K ve0 "is_name" = true)
    (fk0 : PySem.W.keepIn K (.ref f0) = true)
    {f1 : Addr}
    (fa1 : PySem.W.nsIn K mainGlobals "is_list" = some (some (.ref f1)))
    {vd1 vn1 : Option Addr} {vs1 : Array (Option Value)} {vo1 vk1 vc1 vp1 ve1 vt1 : Value}
    (fl1 : K.lookup f1 = some ⟨vo1, vd1, .func (PySem.W.fnOf "is_list" "is_list" (defArgs (topS 9)) (defBody (topS 9)) (defScope (topS 9)) .none vk1 vc1 vp1 vn1 ve1 vt1), vs1⟩)
    (fc1 : PySem.W.codeIn K ve1 "is_list" = true)
    (fk1 : PySem.W.keepIn K (.ref f1) = true)
    {f2 : Addr}
    (fa2 : PySem.W.nsIn K mainGlobals "are_names" = some (some (.ref f2)))
    {vd2 vn2 : Option Addr} {vs2 : Array (Option Value)} {vo2 vk2 vc2 vp2 ve2 vt2 : Value}
    (fl2 : K.lookup f2 = some ⟨vo2, vd2, .func (PySem.W.fnOf "are_names" "are_names" (defArgs (topS 10)) (defBody (topS 10)) (defScope (topS 10)) .none vk2 vc2 vp2 vn2 ve2 vt2), vs2⟩)
    (fc2 : PySem.W.codeIn K ve2 "are_names" = true)
    (fk2 : PySem.W.keepIn K (.ref f2) = true)
    {f3 : Addr}
    (fa3 : PySem.W.nsIn K mainGlobals "is_cell" = some (some (.ref f3)))
    {vd3 vn3 : Option Addr} {vs3 : Array (Option Value)} {vo3 vk3 vc3 vp3 ve3 vt3 : Value}
    (fl3 : K.lookup f3 = some ⟨vo3, vd3, .func (PySem.W.fnOf "is_cell" "is_cell" (defArgs (topS 11)) (defBody (topS 11)) (defScope (topS 11)) .none vk3 vc3 vp3 vn3 ve3 vt3), vs3⟩)
    (fc3 : PySem.W.codeIn K ve3 "is_cell" = true)
    (fk3 : PySem.W.keepIn K (.ref f3) = true)
    {f4 : Addr}
    (fa4 : PySem.W.nsIn K mainGlobals "require_cell" = some (some (.ref f4)))
    {vd4 vn4 : Option Addr} {vs4 : Array (Option Value)} {vo4 vk4 vc4 vp4 ve4 vt4 : Value}
    (fl4 : K.lookup f4 = some ⟨vo4, vd4, .func (PySem.W.fnOf "require_cell" "require_cell" (defArgs (topS 12)) (defBody (topS 12)) (defScope (topS 12)) .none vk4 vc4 vp4 vn4 ve4 vt4), vs4⟩)
    (fc4 : PySem.W.codeIn K ve4 "require_cell" = true)
    (fk4 : PySem.W.keepIn K (.ref f4) = true)
    {f5 : Addr}
    (fa5 : PySem.W.nsIn K mainGlobals "text_items" = some (some (.ref f5)))
    {vd5 vn5 : Option Addr} {vs5 : Array (Option Value)} {vo5 vk5 vc5 vp5 ve5 vt5 : Value}
    (fl5 : K.lookup f5 = some ⟨vo5, vd5, .func (PySem.W.fnOf "text_items" "text_items" (defArgs (topS 13)) (defBody (topS 13)) (defScope (topS 13)) .none vk5 vc5 vp5 vn5 ve5 vt5), vs5⟩)
    (fc5 : PySem.W.codeIn K ve5 "text_items" = true)
    (fk5 : PySem.W.keepIn K (.ref f5) = true)
    {f6 : Addr}
    (fa6 : PySem.W.nsIn K mainGlobals "item_at" = some (some (.ref f6)))
    {vd6 vn6 : Option Addr} {vs6 : Array (Option Value)} {vo6 vk6 vc6 vp6 ve6 vt6 : Value}
    (fl6 : K.lookup f6 = some ⟨vo6, vd6, .func (PySem.W.fnOf "item_at" "item_at" (defArgs (topS 14)) (defBody (topS 14)) (defScope (topS 14)) .none vk6 vc6 vp6 vn6 ve6 vt6), vs6⟩)
    (fc6 : PySem.W.codeIn K ve6 "item_at" = true)
    (fk6 : PySem.W.keepIn K (.ref f6) = true)
    {f7 : Addr}
    (fa7 : PySem.W.nsIn K mainGlobals "require_end" = some (some (.ref f7)))
    {vd7 vn7 : Option Addr} {vs7 : Array (Option Value)} {vo7 vk7 vc7 vp7 ve7 vt7 : Value}
    (fl7 : K.lookup f7 = some ⟨vo7, vd7, .func (PySem.W.fnOf "require_end" "require_end" (defArgs (topS 15)) (defBody (topS 15)) (defScope (topS 15)) .none vk7 vc7 vp7 vn7 ve7 vt7), vs7⟩)
    (fc7 : PySem.W.codeIn K ve7 "require_end" = true)
    (fk7 : PySem.W.keepIn K (.ref f7) = true)
    {f8 : Addr}
    (fa8 : PySem.W.nsIn K mainGlobals "is_region" = some (some (.ref f8)))
    {vd8 vn8 : Option Addr} {vs8 : Array (Option Value)} {vo8 vk8 vc8 vp8 ve8 vt8 : Value}
    (fl8 : K.lookup f8 = some ⟨vo8, vd8, .func (PySem.W.fnOf "is_region" "is_region" (defArgs (topS 23)) (defBody (topS 23)) (defScope (topS 23)) .none vk8 vc8 vp8 vn8 ve8 vt8), vs8⟩)
    (fc8 : PySem.W.codeIn K ve8 "is_region" = true)
    (fk8 : PySem.W.keepIn K (.ref f8) = true)
    {f9 : Addr}
    (fa9 : PySem.W.nsIn K mainGlobals "require_region" = some (some (.ref f9)))
    {vd9 vn9 : Option Addr} {vs9 : Array (Option Value)} {vo9 vk9 vc9 vp9 ve9 vt9 : Value}
    (fl9 : K.lookup f9 = some ⟨vo9, vd9, .func (PySem.W.fnOf "require_region" "require_region" (defArgs (topS 24)) (defBody (topS 24)) (defScope (topS 24)) .none vk9 vc9 vp9 vn9 ve9 vt9), vs9⟩)
    (fc9 : PySem.W.codeIn K ve9 "require_region" = true)
    (fk9 : PySem.W.keepIn K (.ref f9) = true)
    {f10 : Addr}
    (fa10 : PySem.W.nsIn K mainGlobals "lands_of" = some (some (.ref f10)))
    {vd10 vn10 : Option Addr} {vs10 : Array (Option Value)} {vo10 vk10 vc10 vp10 ve10 vt10 : Value}
    (fl10 : K.lookup f10 = some ⟨vo10, vd10, .func (PySem.W.fnOf "lands_of" "lands_of" (defArgs (topS 25)) (defBody (topS 25)) (defScope (topS 25)) .none vk10 vc10 vp10 vn10 ve10 vt10), vs10⟩)
    (fc10 : PySem.W.codeIn K ve10 "lands_of" = true)
    (fk10 : PySem.W.keepIn K (.ref f10) = true)
    {f11 : Addr}
    (fa11 : PySem.W.nsIn K mainGlobals "made_of" = some (some (.ref f11)))
    {vd11 vn11 : Option Addr} {vs11 : Array (Option Value)} {vo11 vk11 vc11 vp11 ve11 vt11 : Value}
    (fl11 : K.lookup f11 = some ⟨vo11, vd11, .func (PySem.W.fnOf "made_of" "made_of" (defArgs (topS 26)) (defBody (topS 26)) (defScope (topS 26)) .none vk11 vc11 vp11 vn11 ve11 vt11), vs11⟩)
    (fc11 : PySem.W.codeIn K ve11 "made_of" = true)
    (fk11 : PySem.W.keepIn K (.ref f11) = true)
    {f12 : Addr}
    (fa12 : PySem.W.nsIn K mainGlobals "_law_pen" = some (some (.ref f12)))
    {vd12 vn12 : Option Addr} {vs12 : Array (Option Value)} {vo12 vk12 vc12 vp12 ve12 vt12 : Value}
    (fl12 : K.lookup f12 = some ⟨vo12, vd12, .func (PySem.W.fnOf "_law_pen" "_law_pen" (defArgs (topS 29)) (defBody (topS 29)) (defScope (topS 29)) .none vk12 vc12 vp12 vn12 ve12 vt12), vs12⟩)
    (fc12 : PySem.W.codeIn K ve12 "_law_pen" = true)
    (fk12 : PySem.W.keepIn K (.ref f12) = true)
    {f13 : Addr}
    (fa13 : PySem.W.nsIn K mainGlobals "_law_draw" = some (some (.ref f13)))
    {vd13 vn13 : Option Addr} {vs13 : Array (Option Value)} {vo13 vk13 vc13 vp13 ve13 vt13 : Value}
    (fl13 : K.lookup f13 = some ⟨vo13, vd13, .func (PySem.W.fnOf "_law_draw" "_law_draw" (defArgs (topS 30)) (defBody (topS 30)) (defScope (topS 30)) .none vk13 vc13 vp13 vn13 ve13 vt13), vs13⟩)
    (fc13 : PySem.W.codeIn K ve13 "_law_draw" = true)
    (fk13 : PySem.W.keepIn K (.ref f13) = true)
    {f14 : Addr}
    (fa14 : PySem.W.nsIn K mainGlobals "_law_pick" = some (some (.ref f14)))
    {vd14 vn14 : Option Addr} {vs14 : Array (Option Value)} {vo14 vk14 vc14 vp14 ve14 vt14 : Value}
    (fl14 : K.lookup f14 = some ⟨vo14, vd14, .func (PySem.W.fnOf "_law_pick" "_law_pick" (defArgs (topS 31)) (defBody (topS 31)) (defScope (topS 31)) .none vk14 vc14 vp14 vn14 ve14 vt14), vs14⟩)
    (fc14 : PySem.W.codeIn K ve14 "_law_pick" = true)
    (fk14 : PySem.W.keepIn K (.ref f14) = true)
    {f15 : Addr}
    (fa15 : PySem.W.nsIn K mainGlobals "_law_names" = some (some (.ref f15)))
    {vd15 vn15 : Option Addr} {vs15 : Array (Option Value)} {vo15 vk15 vc15 vp15 ve15 vt15 : Value}
    (fl15 : K.lookup f15 = some ⟨vo15, vd15, .func (PySem.W.fnOf "_law_names" "_law_names" (defArgs (topS 32)) (defBody (topS 32)) (defScope (topS 32)) .none vk15 vc15 vp15 vn15 ve15 vt15), vs15⟩)
    (fc15 : PySem.W.codeIn K ve15 "_law_names" = true)
    (fk15 : PySem.W.keepIn K (.ref f15) = true)
    {f16 : Addr}
    (fa16 : PySem.W.nsIn K mainGlobals "_law_tree" = some (some (.ref f16)))
    {vd16 vn16 : Option Addr} {vs16 : Array (Option Value)} {vo16 vk16 vc16 vp16 ve16 vt16 : Value}
    (fl16 : K.lookup f16 = some ⟨vo16, vd16, .func (PySem.W.fnOf "_law_tree" "_law_tree" (defArgs (topS 33)) (defBody (topS 33)) (defScope (topS 33)) .none vk16 vc16 vp16 vn16 ve16 vt16), vs16⟩)
    (fc16 : PySem.W.codeIn K ve16 "_law_tree" = true)
    (fk16 : PySem.W.keepIn K (.ref f16) = true)
    {f17 : Addr}
    (fa17 : PySem.W.nsIn K mainGlobals "_law_made" = some (some (.ref f17)))
    {vd17 vn17 : Option Addr} {vs17 : Array (Option Value)} {vo17 vk17 vc17 vp17 ve17 vt17 : Value}
    (fl17 : K.lookup f17 = some ⟨vo17, vd17, .func (PySem.W.fnOf "_law_made" "_law_made" (defArgs (topS 34)) (defBody (topS 34)) (defScope (topS 34)) .none vk17 vc17 vp17 vn17 ve17 vt17), vs17⟩)
    (fc17 : PySem.W.codeIn K ve17 "_law_made" = true)
    (fk17 : PySem.W.keepIn K (.ref f17) = true)
    {f18 : Addr}
    (fa18 : PySem.W.nsIn K mainGlobals "_law_said" = some (some (.ref f18)))
    {vd18 vn18 : Option Addr} {vs18 : Array (Option Value)} {vo18 vk18 vc18 vp18 ve18 vt18 : Value}
    (fl18 : K.lookup f18 = some ⟨vo18, vd18, .func (PySem.W.fnOf "_law_said" "_law_said" (defArgs (topS 35)) (defBody (topS 35)) (defScope (topS 35)) .none vk18 vc18 vp18 vn18 ve18 vt18), vs18⟩)
    (fc18 : PySem.W.codeIn K ve18 "_law_said" = true)
    (fk18 : PySem.W.keepIn K (.ref f18) = true)
    {f19 : Addr}
    (fa19 : PySem.W.nsIn K mainGlobals "_law_lands" = some (some (.ref f19)))
    {vd19 vn19 : Option Addr} {vs19 : Array (Option Value)} {vo19 vk19 vc19 vp19 ve19 vt19 : Value}
    (fl19 : K.lookup f19 = some ⟨vo19, vd19, .func (PySem.W.fnOf "_law_lands" "_law_lands" (defArgs (topS 36)) (defBody (topS 36)) (defScope (topS 36)) .none vk19 vc19 vp19 vn19 ve19 vt19), vs19⟩)
    (fc19 : PySem.W.codeIn K ve19 "_law_lands" = true)
    (fk19 : PySem.W.keepIn K (.ref f19) = true)
    {f20 : Addr}
    (fa20 : PySem.W.nsIn K mainGlobals "_law_over" = some (some (.ref f20)))
    {vd20 vn20 : Option Addr} {vs20 : Array (Option Value)} {vo20 vk20 vc20 vp20 ve20 vt20 : Value}
    (fl20 : K.lookup f20 = some ⟨vo20, vd20, .func (PySem.W.fnOf "_law_over" "_law_over" (defArgs (topS 37)) (defBody (topS 37)) (defScope (topS 37)) .none vk20 vc20 vp20 vn20 ve20 vt20), vs20⟩)
    (fc20 : PySem.W.codeIn K ve20 "_law_over" = true)
    (fk20 : PySem.W.keepIn K (.ref f20) = true)
    {f21 : Addr}
    (fa21 : PySem.W.nsIn K mainGlobals "_law_is_name" = some (some (.ref f21)))
    {vd21 vn21 : Option Addr} {vs21 : Array (Option Value)} {vo21 vk21 vc21 vp21 ve21 vt21 : Value}
    (fl21 : K.lookup f21 = some ⟨vo21, vd21, .func (PySem.W.fnOf "_law_is_name" "_law_is_name" (defArgs (topS 38)) (defBody (topS 38)) (defScope (topS 38)) .none vk21 vc21 vp21 vn21 ve21 vt21), vs21⟩)
    (fc21 : PySem.W.codeIn K ve21 "_law_is_name" = true)
    (fk21 : PySem.W.keepIn K (.ref f21) = true)
    {f22 : Addr}
    (fa22 : PySem.W.nsIn K mainGlobals "_law_bent" = some (some (.ref f22)))
    {vd22 vn22 : Option Addr} {vs22 : Array (Option Value)} {vo22 vk22 vc22 vp22 ve22 vt22 : Value}
    (fl22 : K.lookup f22 = some ⟨vo22, vd22, .func (PySem.W.fnOf "_law_bent" "_law_bent" (defArgs (topS 39)) (defBody (topS 39)) (defScope (topS 39)) .none vk22 vc22 vp22 vn22 ve22 vt22), vs22⟩)
    (fc22 : PySem.W.codeIn K ve22 "_law_bent" = true)
    (fk22 : PySem.W.keepIn K (.ref f22) = true)
    {f23 : Addr}
    (fa23 : PySem.W.nsIn K mainGlobals "_law_heard" = some (some (.ref f23)))
    {vd23 vn23 : Option Addr} {vs23 : Array (Option Value)} {vo23 vk23 vc23 vp23 ve23 vt23 : Value}
    (fl23 : K.lookup f23 = some ⟨vo23, vd23, .func (PySem.W.fnOf "_law_heard" "_law_heard" (defArgs (topS 40)) (defBody (topS 40)) (defScope (topS 40)) .none vk23 vc23 vp23 vn23 ve23 vt23), vs23⟩)
    (fc23 : PySem.W.codeIn K ve23 "_law_heard" = true)
    (fk23 : PySem.W.keepIn K (.ref f23) = true)
    {f24 : Addr}
    (fa24 : PySem.W.nsIn K mainGlobals "_law_depth" = some (some (.ref f24)))
    {vd24 vn24 : Option Addr} {vs24 : Array (Option Value)} {vo24 vk24 vc24 vp24 ve24 vt24 : Value}
    (fl24 : K.lookup f24 = some ⟨vo24, vd24, .func (PySem.W.fnOf "_law_depth" "_law_depth" (defArgs (topS 41)) (defBody (topS 41)) (defScope (topS 41)) .none vk24 vc24 vp24 vn24 ve24 vt24), vs24⟩)
    (fc24 : PySem.W.codeIn K ve24 "_law_depth" = true)
    (fk24 : PySem.W.keepIn K (.ref f24) = true)
    {f25 : Addr}
    (fa25 : PySem.W.nsIn K mainGlobals "_law_parts_right" = some (some (.ref f25)))
    {vd25 vn25 : Option Addr} {vs25 : Array (Option Value)} {vo25 vk25 vc25 vp25 ve25 vt25 : Value}
    (fl25 : K.lookup f25 = some ⟨vo25, vd25, .func (PySem.W.fnOf "_law_parts_right" "_law_parts_right" (defArgs (topS 42)) (defBody (topS 42)) (defScope (topS 42)) .none vk25 vc25 vp25 vn25 ve25 vt25), vs25⟩)
    (fc25 : PySem.W.codeIn K ve25 "_law_parts_right" = true)
    (fk25 : PySem.W.keepIn K (.ref f25) = true)
    {f26 : Addr}
    (fa26 : PySem.W.nsIn K mainGlobals "_law_cells_right" = some (some (.ref f26)))
    {vd26 vn26 : Option Addr} {vs26 : Array (Option Value)} {vo26 vk26 vc26 vp26 ve26 vt26 : Value}
    (fl26 : K.lookup f26 = some ⟨vo26, vd26, .func (PySem.W.fnOf "_law_cells_right" "_law_cells_right" (defArgs (topS 43)) (defBody (topS 43)) (defScope (topS 43)) .none vk26 vc26 vp26 vn26 ve26 vt26), vs26⟩)
    (fc26 : PySem.W.codeIn K ve26 "_law_cells_right" = true)
    (fk26 : PySem.W.keepIn K (.ref f26) = true)
    {f27 : Addr}
    (fa27 : PySem.W.nsIn K mainGlobals "_law_region_right" = some (some (.ref f27)))
    {vd27 vn27 : Option Addr} {vs27 : Array (Option Value)} {vo27 vk27 vc27 vp27 ve27 vt27 : Value}
    (fl27 : K.lookup f27 = some ⟨vo27, vd27, .func (PySem.W.fnOf "_law_region_right" "_law_region_right" (defArgs (topS 44)) (defBody (topS 44)) (defScope (topS 44)) .none vk27 vc27 vp27 vn27 ve27 vt27), vs27⟩)
    (fc27 : PySem.W.codeIn K ve27 "_law_region_right" = true)
    (fk27 : PySem.W.keepIn K (.ref f27) = true)
    {f28 : Addr}
    (fa28 : PySem.W.nsIn K mainGlobals "_law_stop" = some (some (.ref f28)))
    {vd28 vn28 : Option Addr} {vs28 : Array (Option Value)} {vo28 vk28 vc28 vp28 ve28 vt28 : Value}
    (fl28 : K.lookup f28 = some ⟨vo28, vd28, .func (PySem.W.fnOf "_law_stop" "_law_stop" (defArgs (topS 45)) (defBody (topS 45)) (defScope (topS 45)) .none vk28 vc28 vp28 vn28 ve28 vt28), vs28⟩)
    (fc28 : PySem.W.codeIn K ve28 "_law_stop" = true)
    (fk28 : PySem.W.keepIn K (.ref f28) = true)
    {f29 : Addr}
    (fa29 : PySem.W.nsIn K mainGlobals "_law_text_right" = some (some (.ref f29)))
    {vd29 vn29 : Option Addr} {vs29 : Array (Option Value)} {vo29 vk29 vc29 vp29 vt29 : Value}
    (fl29 : K.lookup f29 = some ⟨vo29, vd29, .func (PySem.W.fnOf "_law_text_right" "_law_text_right" (defArgs (topS 46)) (defBody (topS 46)) (defScope (topS 46)) .none vk29 vc29 vp29 vn29 (.ref c1) vt29), vs29⟩)
    (fc29 : PySem.W.codeIn K (.ref c1) "_law_text_right" = true)
    (fk29 : PySem.W.keepIn K (.ref f29) = true)
    {f30 : Addr}
    (fa30 : PySem.W.nsIn K mainGlobals "_law_refused_right" = some (some (.ref f30)))
    {vd30 vn30 : Option Addr} {vs30 : Array (Option Value)} {vo30 vk30 vc30 vp30 vt30 : Value}
    (fl30 : K.lookup f30 = some ⟨vo30, vd30, .func (PySem.W.fnOf "_law_refused_right" "_law_refused_right" (defArgs (topS 47)) (defBody (topS 47)) (defScope (topS 47)) .none vk30 vc30 vp30 vn30 (.ref c2) vt30), vs30⟩)
    (fc30 : PySem.W.codeIn K (.ref c2) "_law_refused_right" = true)
    (fk30 : PySem.W.keepIn K (.ref f30) = true)
    {f31 : Addr}
    (fa31 : PySem.W.nsIn K mainGlobals "law" = some (some (.ref f31)))
    {vd31 vn31 : Option Addr} {vs31 : Array (Option Value)} {vo31 vk31 vc31 vp31 ve31 vt31 : Value}
    (fl31 : K.lookup f31 = some ⟨vo31, vd31, .func (PySem.W.fnOf "law" "law" (defArgs (topS 48)) (defBody (topS 48)) (defScope (topS 48)) .none vk31 vc31 vp31 vn31 ve31 vt31), vs31⟩)
    (fc31 : PySem.W.codeIn K ve31 "law" = true)
    (fk31 : PySem.W.keepIn K (.ref f31) = true)
    : LawAtS l w K CX0 15 63 "_law_script" mg fa h := by
  have e := hfa.symm.trans (PySem.W.mg_of X0 G0 fa31)
  cases e
  have tabs : ∀ p ∈ [(c1, Pt1), (c2, Pt2)], p = (c1, Pt1) ∨ p = (c2, Pt2) := fun p hp => by
    simpa using hp
  refine ⟨PySem.W.fnOf "law" "law" (defArgs (topS 48)) (defBody (topS 48)) (defScope (topS 48)) .none vk31 vc31 vp31 vn31 ve31 vt31, [(c1, Pt1), (c2, Pt2)], spLaw K [(Pt1, qText), (Pt2, qRef)], fun p hp => ?_, fun p hp => ?_, fun p hp => ?_, fun s v => .of_eq rfl, fun H a ns hl _ hP hS => ?_, fun base _ _ hB => ?_⟩
  · rcases tabs p hp with rfl | rfl
    · exact hT1
    · exact hT2
  · rcases tabs p hp with rfl | rfl
    · exact nT1
    · exact nT2
  · rcases tabs p hp with rfl | rfl
    · exact PySem.W.codeHd_of_K X0 hh1
    · exact PySem.W.codeHd_of_K X0 hh2
  · refine ⟨a, ns, rfl, hS, hl, fun q hq => ?_, fun _ => rfl⟩
    have hq' : q = (Pt1, qText) ∨ q = (Pt2, qRef) := by simpa using hq
    rcases hq' with rfl | rfl
    · exact ⟨#[], hP (c1, Pt1) (by simp), True.intro, fun pos cv hc => nomatch hc⟩
    · exact ⟨#[], hP (c2, Pt2) (by simp), True.intro, fun pos cv hc => nomatch hc⟩
  have TB1 := hB (c1, Pt1) (by simp)
  have TB2 := hB (c2, Pt2) (by simp)
  have m0 := PySem.W.mg_of X0 G0 fa0
  have F0 := fun_mk (st := (topS 8)) fl0 fc0 fk0
  have u0 := F0.binds (ps := ["value"]) fun _ _ _ _ _ _ us hl => match us, hl with | [_], _ => rfl
  have m1 := PySem.W.mg_of X0 G0 fa1
  have F1 := fun_mk (st := (topS 9)) fl1 fc1 fk1
  have u1 := F1.binds (ps := ["value"]) fun _ _ _ _ _ _ us hl => match us, hl with | [_], _ => rfl
  have m2 := PySem.W.mg_of X0 G0 fa2
  have F2 := fun_mk (st := (topS 10)) fl2 fc2 fk2
  have u2 := F2.binds (ps := ["value"]) fun _ _ _ _ _ _ us hl => match us, hl with | [_], _ => rfl
  have m3 := PySem.W.mg_of X0 G0 fa3
  have F3 := fun_mk (st := (topS 11)) fl3 fc3 fk3
  have u3 := F3.binds (ps := ["value"]) fun _ _ _ _ _ _ us hl => match us, hl with | [_], _ => rfl
  have m4 := PySem.W.mg_of X0 G0 fa4
  have F4 := fun_mk (st := (topS 12)) fl4 fc4 fk4
  have u4 := F4.binds (ps := ["value", "part"]) fun _ _ _ _ _ _ us hl => match us, hl with | [_, _], _ => rfl
  have m5 := PySem.W.mg_of X0 G0 fa5
  have F5 := fun_mk (st := (topS 13)) fl5 fc5 fk5
  have u5 := F5.binds (ps := ["text"]) fun _ _ _ _ _ _ us hl => match us, hl with | [_], _ => rfl
  have m6 := PySem.W.mg_of X0 G0 fa6
  have F6 := fun_mk (st := (topS 14)) fl6 fc6 fk6
  have u6 := F6.binds (ps := ["items", "at"]) fun _ _ _ _ _ _ us hl => match us, hl with | [_, _], _ => rfl
  have m7 := PySem.W.mg_of X0 G0 fa7
  have F7 := fun_mk (st := (topS 15)) fl7 fc7 fk7
  have u7 := F7.binds (ps := ["items", "at"]) fun _ _ _ _ _ _ us hl => match us, hl with | [_, _], _ => rfl
  have m8 := PySem.W.mg_of X0 G0 fa8
  have F8 := fun_mk (st := (topS 23)) fl8 fc8 fk8
  have u8 := F8.binds (ps := ["value"]) fun _ _ _ _ _ _ us hl => match us, hl with | [_], _ => rfl
  have m9 := PySem.W.mg_of X0 G0 fa9
  have F9 := fun_mk (st := (topS 24)) fl9 fc9 fk9
  have u9 := F9.binds (ps := ["value", "part"]) fun _ _ _ _ _ _ us hl => match us, hl with | [_, _], _ => rfl
  have m10 := PySem.W.mg_of X0 G0 fa10
  have F10 := fun_mk (st := (topS 25)) fl10 fc10 fk10
  have u10 := F10.binds (ps := ["regions"]) fun _ _ _ _ _ _ us hl => match us, hl with | [_], _ => rfl
  have m11 := PySem.W.mg_of X0 G0 fa11
  have F11 := fun_mk (st := (topS 26)) fl11 fc11 fk11
  have u11 := F11.binds (ps := ["sign", "one", "other"]) fun _ _ _ _ _ _ us hl => match us, hl with | [_, _, _], _ => rfl
  have m12 := PySem.W.mg_of X0 G0 fa12
  have F12 := fun_mk (st := (topS 29)) fl12 fc12 fk12
  have u12 := F12.binds (ps := ["_law_script"]) fun _ _ _ _ _ _ us hl => match us, hl with | [_], _ => rfl
  have m13 := PySem.W.mg_of X0 G0 fa13
  have F13 := fun_mk (st := (topS 30)) fl13 fc13 fk13
  have u13 := F13.binds (ps := ["_law_pen_here", "_law_many"]) fun _ _ _ _ _ _ us hl => match us, hl with | [_, _], _ => rfl
  have m14 := PySem.W.mg_of X0 G0 fa14
  have F14 := fun_mk (st := (topS 31)) fl14 fc14 fk14
  have u14 := F14.binds (ps := ["_law_pen_here", "_law_some"]) fun _ _ _ _ _ _ us hl => match us, hl with | [_, _], _ => rfl
  have m15 := PySem.W.mg_of X0 G0 fa15
  have F15 := fun_mk (st := (topS 32)) fl15 fc15 fk15
  have u15 := F15.binds (ps := ["_law_pen_here", "_law_many"]) fun _ _ _ _ _ _ us hl => match us, hl with | [_, _], _ => rfl
  have m16 := PySem.W.mg_of X0 G0 fa16
  have F16 := fun_mk (st := (topS 33)) fl16 fc16 fk16
  have u16 := F16.binds (ps := ["_law_pen_here", "_law_names_here", "_law_most"]) fun _ _ _ _ _ _ us hl => match us, hl with | [_, _, _], _ => rfl
  have m17 := PySem.W.mg_of X0 G0 fa17
  have F17 := fun_mk (st := (topS 34)) fl17 fc17 fk17
  have u17 := F17.binds (ps := ["_law_tree_here"]) fun _ _ _ _ _ _ us hl => match us, hl with | [_], _ => rfl
  have m18 := PySem.W.mg_of X0 G0 fa18
  have F18 := fun_mk (st := (topS 35)) fl18 fc18 fk18
  have u18 := F18.binds (ps := ["_law_tree_here"]) fun _ _ _ _ _ _ us hl => match us, hl with | [_], _ => rfl
  have m19 := PySem.W.mg_of X0 G0 fa19
  have F19 := fun_mk (st := (topS 36)) fl19 fc19 fk19
  have u19 := F19.binds (ps := ["_law_tree_here"]) fun _ _ _ _ _ _ us hl => match us, hl with | [_], _ => rfl
  have m20 := PySem.W.mg_of X0 G0 fa20
  have F20 := fun_mk (st := (topS 37)) fl20 fc20 fk20
  have u20 := F20.binds (ps := ["_law_tree_here", "_law_cell"]) fun _ _ _ _ _ _ us hl => match us, hl with | [_, _], _ => rfl
  have m21 := PySem.W.mg_of X0 G0 fa21
  have F21 := fun_mk (st := (topS 38)) fl21 fc21 fk21
  have u21 := F21.binds (ps := ["_law_item"]) fun _ _ _ _ _ _ us hl => match us, hl with | [_], _ => rfl
  have m22 := PySem.W.mg_of X0 G0 fa22
  have F22 := fun_mk (st := (topS 39)) fl22 fc22 fk22
  have u22 := F22.binds (ps := ["_law_pen_here", "_law_items", "_law_odd"]) fun _ _ _ _ _ _ us hl => match us, hl with | [_, _, _], _ => rfl
  have m23 := PySem.W.mg_of X0 G0 fa23
  have F23 := fun_mk (st := (topS 40)) fl23 fc23 fk23
  have u23 := F23.binds (ps := ["_law_ask"]) fun _ _ _ _ _ _ us hl => match us, hl with | [_], _ => rfl
  have m24 := PySem.W.mg_of X0 G0 fa24
  have F24 := fun_mk (st := (topS 41)) fl24 fc24 fk24
  have u24 := F24.binds (ps := ["_law_tree_here"]) fun _ _ _ _ _ _ us hl => match us, hl with | [_], _ => rfl
  have m25 := PySem.W.mg_of X0 G0 fa25
  have F25 := fun_mk (st := (topS 42)) fl25 fc25 fk25
  have u25 := F25.binds (ps := ["_law_tree_here", "_law_region"]) fun _ _ _ _ _ _ us hl => match us, hl with | [_, _], _ => rfl
  have m26 := PySem.W.mg_of X0 G0 fa26
  have F26 := fun_mk (st := (topS 43)) fl26 fc26 fk26
  have u26 := F26.binds (ps := ["_law_pen_here", "_law_tree_here", "_law_region", "_law_names_here"]) fun _ _ _ _ _ _ us hl => match us, hl with | [_, _, _, _], _ => rfl
  have m27 := PySem.W.mg_of X0 G0 fa27
  have F27 := fun_mk (st := (topS 44)) fl27 fc27 fk27
  have u27 := F27.binds (ps := ["_law_pen_here", "_law_tree_here", "_law_names_here"]) fun _ _ _ _ _ _ us hl => match us, hl with | [_, _, _], _ => rfl
  have m28 := PySem.W.mg_of X0 G0 fa28
  have F28 := fun_mk (st := (topS 45)) fl28 fc28 fk28
  have u28 := F28.binds (ps := ["_law_items"]) fun _ _ _ _ _ _ us hl => match us, hl with | [_], _ => rfl
  have m29 := PySem.W.mg_of X0 G0 fa29
  have F29 := fun_mk (st := (topS 46)) fl29 fc29 fk29
  have u29 := F29.binds (ps := ["_law_pen_here", "_law_tree_here"]) fun _ _ _ _ _ _ us hl => match us, hl with | [_, _], _ => rfl
  have m30 := PySem.W.mg_of X0 G0 fa30
  have F30 := fun_mk (st := (topS 47)) fl30 fc30 fk30
  have u30 := F30.binds (ps := ["_law_pen_here", "_law_names_here"]) fun _ _ _ _ _ _ us hl => match us, hl with | [_, _], _ => rfl
  have m31 := PySem.W.mg_of X0 G0 fa31
  have F31 := fun_mk (st := (topS 48)) fl31 fc31 fk31
  have u31 := F31.binds (ps := ["_law_script"]) fun _ _ _ _ _ _ us hl => match us, hl with | [_], _ => rfl
  have FLc := fun_mk (st := (cLand 1)) flLc fcLc fkLc
  have uLc := FLc.binds (ps := ["self", "cell"]) fun _ _ _ _ _ _ us hl => match us, hl with | [_, _], _ => rfl
  have MLc : Meth K cL "covers" fLc := ⟨iLc, yLc, fkLc⟩
  have FLo := fun_mk (st := (cLand 2)) flLo fcLo fkLo
  have uLo := FLo.binds (ps := ["self", "cell"]) fun _ _ _ _ _ _ us hl => match us, hl with | [_, _], _ => rfl
  have MLo : Meth K cL "is_over" fLo := ⟨iLo, yLo, fkLo⟩
  have FLe := fun_mk (st := (cLand 4)) flLe fcLe fkLe
  have uLe := FLe.binds (ps := ["self", "other"]) fun _ _ _ _ _ _ us hl => match us, hl with | [_, _], _ => rfl
  have MLe : Meth K cL "__eq__" fLe := ⟨iLe, yLe, fkLe⟩
  have FLs := fun_mk (st := (cLand 5)) flLs fcLs fkLs
  have uLs := FLs.binds (ps := ["self"]) fun _ _ _ _ _ _ us hl => match us, hl with | [_], _ => rfl
  have MLs : Meth K cL "__str__" fLs := ⟨iLs, yLs, fkLs⟩
  have FSc := fun_mk (st := (cSum 0)) flSc fcSc fkSc
  have uSc := FSc.binds (ps := ["self", "cell"]) fun _ _ _ _ _ _ us hl => match us, hl with | [_, _], _ => rfl
  have MSc : Meth K cS "covers" fSc := ⟨iSc, ySc, fkSc⟩
  have FSo := fun_mk (st := (cSum 1)) flSo fcSo fkSo
  have uSo := FSo.binds (ps := ["self", "cell"]) fun _ _ _ _ _ _ us hl => match us, hl with | [_, _], _ => rfl
  have MSo : Meth K cS "is_over" fSo := ⟨iSo, ySo, fkSo⟩
  have FSe := fun_mk (st := (cSum 3)) flSe fcSe fkSe
  have uSe := FSe.binds (ps := ["self", "other"]) fun _ _ _ _ _ _ us hl => match us, hl with | [_, _], _ => rfl
  have MSe : Meth K cS "__eq__" fSe := ⟨iSe, ySe, fkSe⟩
  have FSs := fun_mk (st := (cSum 4)) flSs fcSs fkSs
  have uSs := FSs.binds (ps := ["self"]) fun _ _ _ _ _ _ us hl => match us, hl with | [_], _ => rfl
  have MSs : Meth K cS "__str__" fSs := ⟨iSs, ySs, fkSs⟩
  have FCc := fun_mk (st := (cCom 0)) flCc fcCc fkCc
  have uCc := FCc.binds (ps := ["self", "cell"]) fun _ _ _ _ _ _ us hl => match us, hl with | [_, _], _ => rfl
  have MCc : Meth K cC "covers" fCc := ⟨iCc, yCc, fkCc⟩
  have FCo := fun_mk (st := (cCom 1)) flCo fcCo fkCo
  have uCo := FCo.binds (ps := ["self", "cell"]) fun _ _ _ _ _ _ us hl => match us, hl with | [_, _], _ => rfl
  have MCo : Meth K cC "is_over" fCo := ⟨iCo, yCo, fkCo⟩
  have FCe := fun_mk (st := (cCom 3)) flCe fcCe fkCe
  have uCe := FCe.binds (ps := ["self", "other"]) fun _ _ _ _ _ _ us hl => match us, hl with | [_, _], _ => rfl
  have MCe : Meth K cC "__eq__" fCe := ⟨iCe, yCe, fkCe⟩
  have FCs := fun_mk (st := (cCom 4)) flCs fcCs fkCs
  have uCs := FCs.binds (ps := ["self"]) fun _ _ _ _ _ _ us hl => match us, hl with | [_], _ => rfl
  have MCs : Meth K cC "__str__" fCs := ⟨iCs, yCs, fkCs⟩
  have FRc := fun_mk (st := (cRes 0)) flRc fcRc fkRc
  have uRc := FRc.binds (ps := ["self", "cell"]) fun _ _ _ _ _ _ us hl => match us, hl with | [_, _], _ => rfl
  have MRc : Meth K cR "covers" fRc := ⟨iRc, yRc, fkRc⟩
  have FRo := fun_mk (st := (cRes 1)) flRo fcRo fkRo
  have uRo := FRo.binds (ps := ["self", "cell"]) fun _ _ _ _ _ _ us hl => match us, hl with | [_, _], _ => rfl
  have MRo : Meth K cR "is_over" fRo := ⟨iRo, yRo, fkRo⟩
  have FRe := fun_mk (st := (cRes 3)) flRe fcRe fkRe
  have uRe := FRe.binds (ps := ["self", "other"]) fun _ _ _ _ _ _ us hl => match us, hl with | [_, _], _ => rfl
  have MRe : Meth K cR "__eq__" fRe := ⟨iRe, yRe, fkRe⟩
  have FRs := fun_mk (st := (cRes 4)) flRs fcRs fkRs
  have uRs := FRs.binds (ps := ["self"]) fun _ _ _ _ _ _ us hl => match us, hl with | [_], _ => rfl
  have MRs : Meth K cR "__str__" fRs := ⟨iRs, yRs, fkRs⟩
  have FIL := fun_mk (st := (cLand 0)) flIL fcIL fkIL
  have uIL := FIL.binds (ps := ["self", "name"]) fun _ _ _ _ _ _ us hl => match us, hl with | [_, _], _ => rfl
  have FIM := fun_mk (st := (cMade 0)) flIM fcIM fkIM
  have uIM := FIM.binds (ps := ["self", "one", "other"]) fun _ _ _ _ _ _ us hl => match us, hl with | [_, _, _], _ => rfl
  have FRd := fun_mk (st := (cReg 3)) flRd fcRd fkRd
  have uRd := FRd.binds (ps := ["text"]) fun _ _ _ _ _ _ us hl => match us, hl with | [_], _ => rfl
  have n_isinstance := PySem.W.mg_none_of X0 G0 z_isinstance
  have n_int := PySem.W.mg_none_of X0 G0 z_int
  have n_str := PySem.W.mg_none_of X0 G0 z_str
  have n_bool := PySem.W.mg_none_of X0 G0 z_bool
  have n_list := PySem.W.mg_none_of X0 G0 z_list
  have n_tuple := PySem.W.mg_none_of X0 G0 z_tuple
  have n_len := PySem.W.mg_none_of X0 G0 z_len
  have n_all := PySem.W.mg_none_of X0 G0 z_all
  have n_range := PySem.W.mg_none_of X0 G0 z_range
  have n_max := PySem.W.mg_none_of X0 G0 z_max
  have n_sorted := PySem.W.mg_none_of X0 G0 z_sorted
  have n_set := PySem.W.mg_none_of X0 G0 z_set
  have n_enumerate := PySem.W.mg_none_of X0 G0 z_enumerate
  have n_abs := PySem.W.mg_none_of X0 G0 z_abs
  have TX : Tx mg := ⟨n_isinstance, n_int, n_str, n_bool, n_list, n_tuple, n_len, n_all, n_range, n_max, n_sorted, n_set, n_enumerate, n_abs, ⟨_, PySem.W.mg_of X0 G0 zm⟩⟩
  have BB := clsB_ok bB
  have FXB := fun_mk (st := (inClass (topS 3) 0)) flXB fcXB fkXB
  have RB : E1 l.prog w K mg base "BadRegion" "part" CB := e1_mk (st := (inClass (topS 3) 0)) (qual := "BadRegion.__init__") (PySem.W.mg_of X0 G0 aB) (BB.oex oB rB) BB iB tB FXB (ok_br FXB) (fun _ _ _ _ _ _ us hl => match us, hl with | [_, _], _ => rfl) (fun _ _ _ _ _ _ us ws h1 h2 => match us, ws, h1, h2 with | [_], [_], _, _ => rfl)
  have BW := clsB_ok bW
  have FXW := fun_mk (st := (inClass (topS 4) 0)) flXW fcXW fkXW
  have RW : E1 l.prog w K mg base "BadWorld" "part" CW := e1_mk (st := (inClass (topS 4) 0)) (qual := "BadWorld.__init__") (PySem.W.mg_of X0 G0 aW) (BW.oex oW rW) BW iW tW FXW (ok_bw FXW) (fun _ _ _ _ _ _ us hl => match us, hl with | [_, _], _ => rfl) (fun _ _ _ _ _ _ us ws h1 h2 => match us, ws, h1, h2 with | [_], [_], _, _ => rfl)
  have BT := clsB_ok bT
  have FXT := fun_mk (st := (inClass (topS 5) 0)) flXT fcXT fkXT
  have RT : E2 l.prog w K mg base "BadText" "line" "item" CT := e2_mk (st := (inClass (topS 5) 0)) (qual := "BadText.__init__") (PySem.W.mg_of X0 G0 aT) (BT.oex oT rT) BT iT tT FXT (ok_BadText FXT) (fun _ _ _ _ _ _ us hl => match us, hl with | [_, _, _], _ => rfl) (fun _ _ _ _ _ _ us ws h1 h2 => match us, ws, h1, h2 with | [_], [_, _], _, _ => rfl)
  have eB' := eB
  unfold ersB at eB'
  simp only [Bool.and_eq_true, decide_eq_true_eq, List.all_eq_true] at eB'
  obtain ⟨e1, e2, e3, e4⟩ := eB'
  have e1B := e1 CB (by simp)
  have e1W := e1 CW (by simp)
  have e1T := e1 CT (by simp)
  have ER : Ers l.prog w K mg base CE CB CW CT := ⟨PySem.W.mg_of X0 G0 aE, RB, RW, RT, BB.exc hn0 ht0, BW.exc hn0 ht0, BT.exc hn0 ht0, e1B.1, e1W.1, e1T.1, e1B.2.2, e2, e1W.2.2, e3, e4, e1T.2.2, e1B.2.1, e1W.2.1, e1T.2.1⟩
  have PL := clsP_ok pcL
  have PS_ := clsP_ok pcS
  have PC := clsP_ok pcC
  have PR := clsP_ok pcR
  have T : RgK K ⟨cL, cS, cC, cR⟩ := rgK_mk PL PS_ PC PR pp hn0 ht0 ne
  have GG : RgG mg ⟨cL, cS, cC, cR⟩ := ⟨PySem.W.mg_of X0 G0 acL, PySem.W.mg_of X0 G0 acS, PySem.W.mg_of X0 G0 acC, PySem.W.mg_of X0 G0 acR⟩
  have fmt : ∀ C, IsRg ⟨cL, cS, cC, cR⟩ C → FmtC K C := rg_all PL.fm PS_.fm PC.fm PR.fm
  have kG : ∀ C, IsRg ⟨cL, cS, cC, cR⟩ C → PySem.W.kitOne K (.ref C) (.ref g) = some true := fun C hC => of_decide_eq_true (List.all_eq_true.mp kg C (rg_mem (r := ⟨cL, cS, cC, cR⟩) hC))
  have RG : ClX.CRead K g (.type "type") := ⟨rr, rg⟩
  have BG : RgB K mg g := ⟨PySem.W.mg_of X0 G0 aG, _, _, RG, ⟨rv, ⟨_, rfl⟩⟩⟩
  have CV : CovAt l.prog w K mg base ⟨cL, cS, cC, cR⟩ 3 2 := covAt T ⟨_, _, MLc, FLc, uLc⟩ ⟨_, _, MSc, FSc, uSc⟩ ⟨_, _, MCc, FCc, uCc⟩ ⟨_, _, MRc, FRc, uRc⟩ 2
  have EQ : EqAt l.prog w K mg base ⟨cL, cS, cC, cR⟩ 3 2 := eqAt TX T GG ⟨_, _, MLe, FLe, uLe⟩ ⟨_, _, MSe, FSe, uSe⟩ ⟨_, _, MCe, FCe, uCe⟩ ⟨_, _, MRe, FRe, uRe⟩ 2
  have ST : StrAt l.prog w K mg base ⟨cL, cS, cC, cR⟩ 5 2 := strAt TX T fmt ⟨_, _, MLs, FLs, uLs⟩ ⟨_, _, MSs, FSs, uSs⟩ ⟨_, _, MCs, FCs, uCs⟩ ⟨_, _, MRs, FRs, uRs⟩ 2
  have N1 : Df l.prog w K mg base 1 "is_name" ["value"] (spK isName) _ _ := ⟨ok_isname (k := 0) TX F0, u0, m0, fk0⟩
  have N2 := df_mono N1 (show 1 ≤ 2 by decide)
  have N6 := df_mono N1 (show 1 ≤ 6 by decide)
  have L1 : Df l.prog w K mg base 1 "is_list" ["value"] (spS Option.isSome) _ _ := ⟨ok_islist (k := 0) TX F1, u1, m1, fk1⟩
  have A2 : Df l.prog w K mg base 2 "are_names" ["value"] (spS namesO) _ _ := ⟨ok_arenames (k := 0) TX F2 L1 N1, u2, m2, fk2⟩
  have C3 : Df l.prog w K mg base 3 "is_cell" ["value"] (spS cellO) _ _ := ⟨ok_iscell (k := 1) TX F3 A2, u3, m3, fk3⟩
  have QC : FnOk l.prog w K mg base (L2.CX l.prog w) 4 _ _ ["value", "part"] (spReqCell CW) := ok_reqcell (k := 1) TX RW C3 F4
  have OV : OverAt l.prog w K mg base ⟨cL, cS, cC, cR⟩ CW 5 := overAt (k := 3) T (cov_mono CV (by decide)) QC u4 m4 fk4 ⟨_, _, MLo, FLo, uLo, kb_kw1 FLo fun _ _ _ _ _ _ us ws h1 h2 => match us, ws, h1, h2 with | [_], [_], _, _ => rfl⟩ ⟨_, _, MSo, FSo, uSo, kb_kw1 FSo fun _ _ _ _ _ _ us ws h1 h2 => match us, ws, h1, h2 with | [_], [_], _, _ => rfl⟩ ⟨_, _, MCo, FCo, uCo, kb_kw1 FCo fun _ _ _ _ _ _ us ws h1 h2 => match us, ws, h1, h2 with | [_], [_], _, _ => rfl⟩ ⟨_, _, MRo, FRo, uRo, kb_kw1 FRo fun _ _ _ _ _ _ us ws h1 h2 => match us, ws, h1, h2 with | [_], [_], _, _ => rfl⟩
  have I2 : Df l.prog w K mg base 2 "is_region" ["value"] (spIsR ⟨cL, cS, cC, cR⟩) _ _ := ⟨(ok_isreg (k := 0) TX T GG F8).mono (by decide), u8, m8, fk8⟩
  have QR : FnOk l.prog w K mg base (L2.CX l.prog w) 3 _ _ ["value", "part"] (spReqR ⟨cL, cS, cC, cR⟩ CB) := ok_reqreg (k := 0) RB I2 F9
  have LO : Df l.prog w K mg base 3 "lands_of" ["regions"] (spLandsOf ⟨cL, cS, cC, cR⟩) _ _ := ⟨(ok_landsof (k := 0) TX T F10).mono (by decide), u10, m10, fk10⟩
  have KL : FnOk l.prog w K mg base (L2.CX l.prog w) 3 _ _ ["self", "name"] (spMkL ⟨cL, cS, cC, cR⟩ CB) := ok_mkL (k := 0) T RB N2 FIL
  have KM : ∀ sg, FnOk l.prog w K mg base (L2.CX l.prog w) 4 _ _ ["self", "one", "other"] (spMkM ⟨cL, cS, cC, cR⟩ CB sg) := fun sg => ok_mkM (k := 0) (s := sg) TX T BG RB QR u9 m9 fk9 LO FIM
  have mkL : Mk K cL fIL := ⟨PL.mkI, iIL, yIL, PL.kp⟩
  have mkS : Mk K cS fIM := ⟨PS_.mkI, iMS, yIM, PS_.kp⟩
  have mkC : Mk K cC fIM := ⟨PC.mkI, iMC, yIM, PC.kp⟩
  have mkR : Mk K cR fIM := ⟨PR.mkI, iMR, yIM, PR.kp⟩
  have mkM : ∀ sg, Mk K ((⟨cL, cS, cC, cR⟩ : RC).of sg) fIM := fun sg => by
    cases sg
    · exact mkS
    · exact mkC
    · exact mkR
  have MK4 : Mks l.prog w K mg base ⟨cL, cS, cC, cR⟩ CB 4 4 := ⟨⟨_, _, mkL, KL.mono (by decide), uIL⟩, fun sg => ⟨_, _, mkM sg, KM sg, uIM⟩⟩
  have MO : FnOk l.prog w K mg base (L2.CX l.prog w) 6 _ _ ["sign", "one", "other"] (spMadeOf ⟨cL, cS, cC, cR⟩ CB) := ok_madeof (k := 4) GG MK4 F11
  have IA : FnOk l.prog w K mg base (L2.CX l.prog w) 3 _ _ ["items", "at"] (spItemAt CT) := ok_itemat (k := 0) TX RT F6
  have FK : FrK l.prog w K mg base ⟨cL, cS, cC, cR⟩ CB CT g 5 := ⟨TX, T, BG, GG, RT, ⟨_, _, IA.mono (by decide), u6, m6, fk6⟩, ⟨_, _, N6⟩, mks_mono MK4 (by decide) (by decide), by decide, ⟨_, _, MO, u11, m11, fk11⟩⟩
  have FD : FunD K "region_from" "region_from" (defArgs sFrom) (defBody sFrom) (defScope sFrom) [.non, .int 0] [] fFr _ := ⟨⟨_, _, .ref dT, _, _, _, _, _, _, _, rfl, flFr, fcFr, .inr ⟨by simp, dT, _, dits.toList, dn, rfl, dl, rfl, dv⟩, .inl rfl⟩, fkFr⟩
  have mFr := PySem.W.mg_of X0 G0 aFr
  obtain ⟨ds4, v4, b4⟩ := FD.binds1 (ps := ["items", "at", "lands", "depth"]) 4 2 (by simp) rfl (fun T' kV' doc' pm' an' cdv' ct' us its h1 h2 => by
    match us, its, h1, h2 with
    | [_, _, _, _], [_, _], _, _ => exact ⟨_, rfl, rfl⟩)
  obtain ⟨ds2, v2, b2⟩ := FD.binds1 (ps := ["items", "at", "lands", "depth"]) 2 0 (by simp) rfl (fun T' kV' doc' pm' an' cdv' ct' us its h1 h2 => by
    match us, its, h1, h2 with
    | [_, _], [_, _], _, _ => exact ⟨_, rfl, rfl⟩)
  obtain rfl : ds4 = [] := by
    cases v4
    rfl
  have FR := ok_from FK b4 mFr FD 2 (Nat.le_refl _)
  have TI : FnOk l.prog w K mg base (L2.CX l.prog w) 3 _ _ ["text"] (spItems ⟨cL, cS, cC, cR⟩ CT) := ok_items (k := 0) TX T RT F5
  have EE : FnOk l.prog w K mg base (L2.CX l.prog w) 3 _ _ ["items", "at"] (spReqEnd CT) := ok_reqend (k := 0) TX RT F7
  have RD : FnOk l.prog w K mg base (L2.CX l.prog w) 10 _ _ ["text"] (spRead ⟨cL, cS, cC, cR⟩ CT) := ok_read (k := 8) (TI.mono (by decide)) u5 m5 fk5 FR b2 v2 mFr fkFr (EE.mono (by decide)) u7 m7 fk7 FRd
  have SP_ : Df l.prog w K mg base 1 "_law_pen" ["_law_script"] (spPen K) _ _ := ⟨ok_pen (k := 0) F12 n_int, u12, m12, fk12⟩
  have D1 : Df l.prog w K mg base 1 "_law_draw" ["_law_pen_here", "_law_many"] spDraw _ _ := ⟨ok_draw (k := 0) F13 n_int n_len n_abs, u13, m13, fk13⟩
  have D2 := df_mono D1 (show 1 ≤ 2 by decide)
  have D5 := df_mono D1 (show 1 ≤ 5 by decide)
  have P2 : Df l.prog w K mg base 2 "_law_pick" ["_law_pen_here", "_law_some"] spPick _ _ := ⟨ok_pick (k := 0) TX D1 F14, u14, m14, fk14⟩
  have NM : Df l.prog w K mg base 3 "_law_names" ["_law_pen_here", "_law_many"] spNames _ _ := ⟨ok_names (k := 1) TX P2 F15, u15, m15, fk15⟩
  have TR : Df l.prog w K mg base 5 "_law_tree" ["_law_pen_here", "_law_names_here", "_law_most"] (spTree 2) _ _ := ⟨ok_tree (k := 1) P2 D2 u16 m16 fk16 F16 2, u16, m16, fk16⟩
  have MA : Df l.prog w K mg base 8 "_law_made" ["_law_tree_here"] (spMadeT ⟨cL, cS, cC, cR⟩ 2) _ _ := ⟨ok_madeT (k := 4) TX GG MK4 u17 m17 fk17 F17 2, u17, m17, fk17⟩
  have SA : Df l.prog w K mg base 3 "_law_said" ["_law_tree_here"] (spSaid 2) _ _ := ⟨ok_said (k := 0) TX u18 m18 fk18 F18 2, u18, m18, fk18⟩
  have LA : Df l.prog w K mg base 3 "_law_lands" ["_law_tree_here"] (spLandsT 2) _ _ := ⟨ok_lands (k := 0) TX u19 m19 fk19 F19 2, u19, m19, fk19⟩
  have OW : Df l.prog w K mg base 3 "_law_over" ["_law_tree_here", "_law_cell"] (spOverT K 2) _ _ := ⟨ok_over (k := 0) TX u20 m20 fk20 F20 2, u20, m20, fk20⟩
  have DE : Df l.prog w K mg base 3 "_law_depth" ["_law_tree_here"] (spDepth 2) _ _ := ⟨ok_depth (k := 0) TX u24 m24 fk24 F24 2, u24, m24, fk24⟩
  have LN : Df l.prog w K mg base 1 "_law_is_name" ["_law_item"] spLName _ _ := ⟨ok_lname (k := 0) TX F21, u21, m21, fk21⟩
  have BE : Df l.prog w K mg base 2 "_law_bent" ["_law_pen_here", "_law_items", "_law_odd"] spBent _ _ := ⟨ok_bent (k := 0) TX D1 F22, u22, m22, fk22⟩
  have SO : Df l.prog w K mg base 2 "_law_stop" ["_law_items"] (spStop K) _ _ := ⟨ok_stop (k := 0) TX LN F28, u28, m28, fk28⟩
  have PT : Df l.prog w K mg base 9 "_law_parts_right" ["_law_tree_here", "_law_region"] (spParts ⟨cL, cS, cC, cR⟩) _ _ := ⟨ok_parts (k := 7) TX T GG BG kG (eq_mono EQ (by decide)) MA F25, u25, m25, fk25⟩
  have CE_ : Df l.prog w K mg base 6 "_law_cells_right" ["_law_pen_here", "_law_tree_here", "_law_region", "_law_names_here"] (spCells ⟨cL, cS, cC, cR⟩) _ _ := ⟨ok_cells (k := 4) TX OV D5 (df_mono OW (by decide)) F26, u26, m26, fk26⟩
  have kbL : KBn K _ ["self", "name"] 1 ["name"] (fun us ws => us ++ ws) (fun vs zs => vs ++ zs) := kb_kw1 FIL fun _ _ _ _ _ _ us ws h1 h2 => match us, ws, h1, h2 with | [_], [_], _, _ => rfl
  have kbM : KBn K _ ["self", "one", "other"] 1 ["one", "other"] (fun us ws => us ++ ws) (fun vs zs => vs ++ zs) := kb_kw1 FIM fun _ _ _ _ _ _ us ws h1 h2 => match us, ws, h1, h2 with | [_], [_, _], _, _ => rfl
  have kbR : KBn K _ ["self", "one", "other"] 1 ["other", "one"] (fun us ws => us ++ ws.reverse) (fun vs zs => vs ++ zs.reverse) := kb_kwR FIM fun _ _ _ _ _ _ us ws h1 h2 => match us, ws, h1, h2 with | [_], [_, _], _, _ => rfl
  have LW : LwK l.prog w K mg base ⟨cL, cS, cC, cR⟩ CB CT CW g 10 := ⟨TX, T, GG, BG, eq_mono EQ (by decide), str_mono ST (by decide), over_mono OV (by decide), mks_mono MK4 (by decide) (by decide), ⟨_, _, mkL, KL.mono (by decide), kbL⟩, fun sg => ⟨_, _, mkM sg, (KM sg).mono (by decide), kbM, kbR⟩, ⟨_, _, df_mono MA (by decide)⟩, ⟨_, _, df_mono TR (by decide)⟩, ⟨_, _, df_mono PT (by decide)⟩, ⟨_, _, df_mono LA (by decide)⟩, ⟨_, _, df_mono DE (by decide)⟩, ⟨_, _, df_mono SA (by decide)⟩, ⟨_, _, df_mono CE_ (by decide)⟩, ⟨_, _, df_mono P2 (by decide)⟩, ⟨_, _, df_mono BE (by decide)⟩, ⟨_, _, df_mono SO (by decide)⟩, ⟨_, _, _, _, RG, ⟨rs, ⟨_, rc⟩, fkRd⟩, RD, uRd⟩⟩
  have HD : HdF K mg f23 := ⟨m23, fk23, _, _, _, _, _, _, _, _, _, _, fl23, fc23, u23⟩
  have FC1 : FunC K "_law_text_right" sText f29 _ c1 := ⟨⟨_, _, _, _, _, _, _, _, rfl, fl29, fc29⟩⟩
  have FC2 : FunC K "_law_refused_right" sRef f30 _ c2 := ⟨⟨_, _, _, _, _, _, _, _, rfl, fl30, fc30⟩⟩
  have hu1 : ∀ q ∈ [(Pt1, qText), (Pt2, qRef)], q.1 = Pt1 → q.2 = qText := fun q hq e => by
    have hq' : q = (Pt1, qText) ∨ q = (Pt2, qRef) := by simpa using hq
    rcases hq' with rfl | rfl
    · rfl
    · exact absurd e.symm hne
  have hu2 : ∀ q ∈ [(Pt1, qText), (Pt2, qRef)], q.1 = Pt2 → q.2 = qRef := fun q hq e => by
    have hq' : q = (Pt1, qText) ∨ q = (Pt2, qRef) := by simpa using hq
    rcases hq' with rfl | rfl
    · exact absurd e hne
    · rfl
  have RR : Df l.prog w K mg base 13 "_law_region_right" ["_law_pen_here", "_law_tree_here", "_law_names_here"] spRegion _ _ := ⟨ok_region (k := 10) LW F27, u27, m27, fk27⟩
  have TXR : Df l.prog w K mg base 13 "_law_text_right" ["_law_pen_here", "_law_tree_here"] (spTextR [(Pt1, qText), (Pt2, qRef)]) _ _ := ⟨ok_text (k := 10) LW ER HD TB1 (by simp) hu1 FC1, u29, m29, fk29⟩
  have RFR : Df l.prog w K mg base 14 "_law_refused_right" ["_law_pen_here", "_law_names_here"] (spRefR [(Pt1, qText), (Pt2, qRef)]) _ _ := ⟨ok_ref (k := 10) LW ER HD TB2 (by simp) hu2 FC2, u30, m30, fk30⟩
  have LL : Lw l.prog w K mg base g 14 [(Pt1, qText), (Pt2, qRef)] := ⟨TX, BG, ⟨_, _, df_mono SP_ (by decide)⟩, ⟨_, _, df_mono D1 (by decide)⟩, ⟨_, _, df_mono NM (by decide)⟩, ⟨_, _, df_mono TR (by decide)⟩, ⟨_, _, df_mono RR (by decide)⟩, ⟨_, _, df_mono TXR (by decide)⟩, ⟨_, _, RFR⟩⟩
  exact ok_law LL F31
end K04
open PySem PySem.W PyProof.Rows
set_option maxRecDepth 100000 in
set_option maxHeartbeats 0 in
theorem PySem.Challenge.cw_borderwords_k04_regions_made_read_refuse_holds : PySem.Challenge.rw_borderwords_k04_regions_made_read_refuse.Holds := by
  w_on; o_law; k_head; (case hw => w_witness2)
  k_fill
  refine LamX.walk_ofTs (l := PySem.Challenge.rw_borderwords_k04_regions_made_read_refuse) (n := 63) (k := 15) (x := "_law_script") (CX := fun _ => L2.CX0) rfl (by decide) rfl ⟨rfl, by decide, by decide⟩ (fun w h Y => PySem.W.km_in_of Y) ?F (fun _ _ _ _ _ h => h)
  case F =>
    intro w mg fa h Y KX G hmg
    have hT8 := km_tabs_of Y
    refine' K04.all_mk 544 551 KX G hmg ?qq_hT1 ?qq_hT2 ?qq_hne ?qq_nT1 ?qq_nT2 ?qq_hh1 ?qq_hh2 ?qq_aB ?qq_oB ?qq_rB ?qq_bB ?qq_iB ?qq_flXB ?qq_fcXB ?qq_fkXB ?qq_tB ?qq_aW ?qq_oW ?qq_rW ?qq_bW ?qq_iW ?qq_flXW ?qq_fcXW ?qq_fkXW ?qq_tW ?qq_aT ?qq_oT ?qq_rT ?qq_bT ?qq_iT ?qq_flXT ?qq_fcXT ?qq_fkXT ?qq_tT ?qq_aE ?qq_eB ?qq_hn0 ?qq_ht0 ?qq_aG ?qq_acL ?qq_acS ?qq_acC ?qq_acR ?qq_pcL ?qq_pcS ?qq_pcC ?qq_pcR ?qq_pp ?qq_kg ?qq_ne ?qq_iLc ?qq_flLc ?qq_fcLc ?qq_fkLc ?qq_yLc ?qq_iLo ?qq_flLo ?qq_fcLo ?qq_fkLo ?qq_yLo ?qq_iLe ?qq_flLe ?qq_fcLe ?qq_fkLe ?qq_yLe ?qq_iLs ?qq_flLs ?qq_fcLs ?qq_fkLs ?qq_yLs ?qq_iSc ?qq_flSc ?qq_fcSc ?qq_fkSc ?qq_ySc ?qq_iSo ?qq_flSo ?qq_fcSo ?qq_fkSo ?qq_ySo ?qq_iSe ?qq_flSe ?qq_fcSe ?qq_fkSe ?qq_ySe ?qq_iSs ?qq_flSs ?qq_fcSs ?qq_fkSs ?qq_ySs ?qq_iCc ?qq_flCc ?qq_fcCc ?qq_fkCc ?qq_yCc ?qq_iCo ?qq_flCo ?qq_fcCo ?qq_fkCo ?qq_yCo ?qq_iCe ?qq_flCe ?qq_fcCe ?qq_fkCe ?qq_yCe ?qq_iCs ?qq_flCs ?qq_fcCs ?qq_fkCs ?qq_yCs ?qq_iRc ?qq_flRc ?qq_fcRc ?qq_fkRc ?qq_yRc ?qq_iRo ?qq_flRo ?qq_fcRo ?qq_fkRo ?qq_yRo ?qq_iRe ?qq_flRe ?qq_fcRe ?qq_fkRe ?qq_yRe ?qq_iRs ?qq_flRs ?qq_fcRs ?qq_fkRs ?qq_yRs ?qq_iIL ?qq_flIL ?qq_fcIL ?qq_fkIL ?qq_yIL ?qq_iMS ?qq_iMC ?qq_iMR ?qq_flIM ?qq_fcIM ?qq_fkIM ?qq_yIM ?qq_rr ?qq_rg ?qq_rv ?qq_rs ?qq_rc ?qq_flRd ?qq_fcRd ?qq_fkRd ?qq_aFr ?qq_flFr ?qq_fcFr ?qq_fkFr ?qq_dl ?qq_dv ?qq_zm ?qq_z_isinstance ?qq_z_int ?qq_z_str ?qq_z_bool ?qq_z_list ?qq_z_tuple ?qq_z_len ?qq_z_all ?qq_z_range ?qq_z_max ?qq_z_sorted ?qq_z_set ?qq_z_enumerate ?qq_z_abs ?qq_fa0 ?qq_fl0 ?qq_fc0 ?qq_fk0 ?qq_fa1 ?qq_fl1 ?qq_fc1 ?qq_fk1 ?qq_fa2 ?qq_fl2 ?qq_fc2 ?qq_fk2 ?qq_fa3 ?qq_fl3 ?qq_fc3 ?qq_fk3 ?qq_fa4 ?qq_fl4 ?qq_fc4 ?qq_fk4 ?qq_fa5 ?qq_fl5 ?qq_fc5 ?qq_fk5 ?qq_fa6 ?qq_fl6 ?qq_fc6 ?qq_fk6 ?qq_fa7 ?qq_fl7 ?qq_fc7 ?qq_fk7 ?qq_fa8 ?qq_fl8 ?qq_fc8 ?qq_fk8 ?qq_fa9 ?qq_fl9 ?qq_fc9 ?qq_fk9 ?qq_fa10 ?qq_fl10 ?qq_fc10 ?qq_fk10 ?qq_fa11 ?qq_fl11 ?qq_fc11 ?qq_fk11 ?qq_fa12 ?qq_fl12 ?qq_fc12 ?qq_fk12 ?qq_fa13 ?qq_fl13 ?qq_fc13 ?qq_fk13 ?qq_fa14 ?qq_fl14 ?qq_fc14 ?qq_fk14 ?qq_fa15 ?qq_fl15 ?qq_fc15 ?qq_fk15 ?qq_fa16 ?qq_fl16 ?qq_fc16 ?qq_fk16 ?qq_fa17 ?qq_fl17 ?qq_fc17 ?qq_fk17 ?qq_fa18 ?qq_fl18 ?qq_fc18 ?qq_fk18 ?qq_fa19 ?qq_fl19 ?qq_fc19 ?qq_fk19 ?qq_fa20 ?qq_fl20 ?qq_fc20 ?qq_fk20 ?qq_fa21 ?qq_fl21 ?qq_fc21 ?qq_fk21 ?qq_fa22 ?qq_fl22 ?qq_fc22 ?qq_fk22 ?qq_fa23 ?qq_fl23 ?qq_fc23 ?qq_fk23 ?qq_fa24 ?qq_fl24 ?qq_fc24 ?qq_fk24 ?qq_fa25 ?qq_fl25 ?qq_fc25 ?qq_fk25 ?qq_fa26 ?qq_fl26 ?qq_fc26 ?qq_fk26 ?qq_fa27 ?qq_fl27 ?qq_fc27 ?qq_fk27 ?qq_fa28 ?qq_fl28 ?qq_fc28 ?qq_fk28 ?qq_fa29 ?qq_fl29 ?qq_fc29 ?qq_fk29 ?qq_fa30 ?qq_fl30 ?qq_fc30 ?qq_fk30 ?qq_fa31 ?qq_fl31 ?qq_fc31 ?qq_fk31
    (case qq_hT1 => exact hT8 544 (by simp))
    (case qq_hT2 => exact hT8 551 (by simp))
    (case qq_hne => decide)
    (case qq_aB => k_is)
    (case qq_oB => k_is)
    (case qq_rB => rfl)
    (case qq_bB => kernel_rfl!)
    (case qq_iB => k_is)
    (case qq_flXB => k_is)
    (case qq_fcXB => k_is)
    (case qq_fkXB => k_is)
    (case qq_tB => k_is)
    (case qq_aW => k_is)
    (case qq_oW => k_is)
    (case qq_rW => rfl)
    (case qq_bW => kernel_rfl!)
    (case qq_iW => k_is)
    (case qq_flXW => k_is)
    (case qq_fcXW => k_is)
    (case qq_fkXW => k_is)
    (case qq_tW => k_is)
    (case qq_aT => k_is)
    (case qq_oT => k_is)
    (case qq_rT => rfl)
    (case qq_bT => kernel_rfl!)
    (case qq_iT => k_is)
    (case qq_flXT => k_is)
    (case qq_fcXT => k_is)
    (case qq_fkXT => k_is)
    (case qq_tT => k_is)
    (case qq_aE => k_is)
    (case qq_eB => kernel_rfl!)
    (case qq_hn0 => k_is)
    (case qq_ht0 => k_is)
    (case qq_aG => k_is)
    (case qq_acL => k_is)
    (case qq_acS => k_is)
    (case qq_acC => k_is)
    (case qq_acR => k_is)
    (case qq_pcL => kernel_rfl!)
    (case qq_pcS => kernel_rfl!)
    (case qq_pcC => kernel_rfl!)
    (case qq_pcR => kernel_rfl!)
    (case qq_pp => kernel_rfl!)
    (case qq_kg => kernel_rfl!)
    (case qq_ne => decide)
    (case qq_iLc => k_is)
    (case qq_flLc => k_is)
    (case qq_fcLc => k_is)
    (case qq_fkLc => k_is)
    (case qq_yLc => kernel_rfl)
    (case qq_iLo => k_is)
    (case qq_flLo => k_is)
    (case qq_fcLo => k_is)
    (case qq_fkLo => k_is)
    (case qq_yLo => kernel_rfl)
    (case qq_iLe => k_is)
    (case qq_flLe => k_is)
    (case qq_fcLe => k_is)
    (case qq_fkLe => k_is)
    (case qq_yLe => kernel_rfl)
    (case qq_iLs => k_is)
    (case qq_flLs => k_is)
    (case qq_fcLs => k_is)
    (case qq_fkLs => k_is)
    (case qq_yLs => kernel_rfl)
    (case qq_iSc => k_is)
    (case qq_flSc => k_is)
    (case qq_fcSc => k_is)
    (case qq_fkSc => k_is)
    (case qq_ySc => kernel_rfl)
    (case qq_iSo => k_is)
    (case qq_flSo => k_is)
    (case qq_fcSo => k_is)
    (case qq_fkSo => k_is)
    (case qq_ySo => kernel_rfl)
    (case qq_iSe => k_is)
    (case qq_flSe => k_is)
    (case qq_fcSe => k_is)
    (case qq_fkSe => k_is)
    (case qq_ySe => kernel_rfl)
    (case qq_iSs => k_is)
    (case qq_flSs => k_is)
    (case qq_fcSs => k_is)
    (case qq_fkSs => k_is)
    (case qq_ySs => kernel_rfl)
    (case qq_iCc => k_is)
    (case qq_flCc => k_is)
    (case qq_fcCc => k_is)
    (case qq_fkCc => k_is)
    (case qq_yCc => kernel_rfl)
    (case qq_iCo => k_is)
    (case qq_flCo => k_is)
    (case qq_fcCo => k_is)
    (case qq_fkCo => k_is)
    (case qq_yCo => kernel_rfl)
    (case qq_iCe => k_is)
    (case qq_flCe => k_is)
    (case qq_fcCe => k_is)
    (case qq_fkCe => k_is)
    (case qq_yCe => kernel_rfl)
    (case qq_iCs => k_is)
    (case qq_flCs => k_is)
    (case qq_fcCs => k_is)
    (case qq_fkCs => k_is)
    (case qq_yCs => kernel_rfl)
    (case qq_iRc => k_is)
    (case qq_flRc => k_is)
    (case qq_fcRc => k_is)
    (case qq_fkRc => k_is)
    (case qq_yRc => kernel_rfl)
    (case qq_iRo => k_is)
    (case qq_flRo => k_is)
    (case qq_fcRo => k_is)
    (case qq_fkRo => k_is)
    (case qq_yRo => kernel_rfl)
    (case qq_iRe => k_is)
    (case qq_flRe => k_is)
    (case qq_fcRe => k_is)
    (case qq_fkRe => k_is)
    (case qq_yRe => kernel_rfl)
    (case qq_iRs => k_is)
    (case qq_flRs => k_is)
    (case qq_fcRs => k_is)
    (case qq_fkRs => k_is)
    (case qq_yRs => kernel_rfl)
    (case qq_iIL => k_is)
    (case qq_flIL => k_is)
    (case qq_fcIL => k_is)
    (case qq_fkIL => k_is)
    (case qq_yIL => kernel_rfl)
    (case qq_iMS => k_is)
    (case qq_iMC => k_is)
    (case qq_iMR => k_is)
    (case qq_flIM => k_is)
    (case qq_fcIM => k_is)
    (case qq_fkIM => k_is)
    (case qq_yIM => kernel_rfl)
    (case qq_rr => kernel_rfl)
    (case qq_rg => k_is)
    (case qq_rv => k_is)
    (case qq_rs => k_is)
    (case qq_rc => k_is)
    (case qq_flRd => k_is)
    (case qq_fcRd => k_is)
    (case qq_fkRd => k_is)
    (case qq_aFr => k_is)
    (case qq_flFr => k_is)
    (case qq_fcFr => k_is)
    (case qq_fkFr => k_is)
    (case qq_dl => k_is)
    (case qq_dv => exact .cons rfl (.cons ⟨_, rfl⟩ .nil))
    (case qq_zm => k_is)
    (case qq_z_isinstance => k_is)
    (case qq_z_int => k_is)
    (case qq_z_str => k_is)
    (case qq_z_bool => k_is)
    (case qq_z_list => k_is)
    (case qq_z_tuple => k_is)
    (case qq_z_len => k_is)
    (case qq_z_all => k_is)
    (case qq_z_range => k_is)
    (case qq_z_max => k_is)
    (case qq_z_sorted => k_is)
    (case qq_z_set => k_is)
    (case qq_z_enumerate => k_is)
    (case qq_z_abs => k_is)
    (case qq_fa0 => k_is)
    (case qq_fl0 => k_is)
    (case qq_fc0 => k_is)
    (case qq_fk0 => k_is)
    (case qq_fa1 => k_is)
    (case qq_fl1 => k_is)
    (case qq_fc1 => k_is)
    (case qq_fk1 => k_is)
    (case qq_fa2 => k_is)
    (case qq_fl2 => k_is)
    (case qq_fc2 => k_is)
    (case qq_fk2 => k_is)
    (case qq_fa3 => k_is)
    (case qq_fl3 => k_is)
    (case qq_fc3 => k_is)
    (case qq_fk3 => k_is)
    (case qq_fa4 => k_is)
    (case qq_fl4 => k_is)
    (case qq_fc4 => k_is)
    (case qq_fk4 => k_is)
    (case qq_fa5 => k_is)
    (case qq_fl5 => k_is)
    (case qq_fc5 => k_is)
    (case qq_fk5 => k_is)
    (case qq_fa6 => k_is)
    (case qq_fl6 => k_is)
    (case qq_fc6 => k_is)
    (case qq_fk6 => k_is)
    (case qq_fa7 => k_is)
    (case qq_fl7 => k_is)
    (case qq_fc7 => k_is)
    (case qq_fk7 => k_is)
    (case qq_fa8 => k_is)
    (case qq_fl8 => k_is)
    (case qq_fc8 => k_is)
    (case qq_fk8 => k_is)
    (case qq_fa9 => k_is)
    (case qq_fl9 => k_is)
    (case qq_fc9 => k_is)
    (case qq_fk9 => k_is)
    (case qq_fa10 => k_is)
    (case qq_fl10 => k_is)
    (case qq_fc10 => k_is)
    (case qq_fk10 => k_is)
    (case qq_fa11 => k_is)
    (case qq_fl11 => k_is)
    (case qq_fc11 => k_is)
    (case qq_fk11 => k_is)
    (case qq_fa12 => k_is)
    (case qq_fl12 => k_is)
    (case qq_fc12 => k_is)
    (case qq_fk12 => k_is)
    (case qq_fa13 => k_is)
    (case qq_fl13 => k_is)
    (case qq_fc13 => k_is)
    (case qq_fk13 => k_is)
    (case qq_fa14 => k_is)
    (case qq_fl14 => k_is)
    (case qq_fc14 => k_is)
    (case qq_fk14 => k_is)
    (case qq_fa15 => k_is)
    (case qq_fl15 => k_is)
    (case qq_fc15 => k_is)
    (case qq_fk15 => k_is)
    (case qq_fa16 => k_is)
    (case qq_fl16 => k_is)
    (case qq_fc16 => k_is)
    (case qq_fk16 => k_is)
    (case qq_fa17 => k_is)
    (case qq_fl17 => k_is)
    (case qq_fc17 => k_is)
    (case qq_fk17 => k_is)
    (case qq_fa18 => k_is)
    (case qq_fl18 => k_is)
    (case qq_fc18 => k_is)
    (case qq_fk18 => k_is)
    (case qq_fa19 => k_is)
    (case qq_fl19 => k_is)
    (case qq_fc19 => k_is)
    (case qq_fk19 => k_is)
    (case qq_fa20 => k_is)
    (case qq_fl20 => k_is)
    (case qq_fc20 => k_is)
    (case qq_fk20 => k_is)
    (case qq_fa21 => k_is)
    (case qq_fl21 => k_is)
    (case qq_fc21 => k_is)
    (case qq_fk21 => k_is)
    (case qq_fa22 => k_is)
    (case qq_fl22 => k_is)
    (case qq_fc22 => k_is)
    (case qq_fk22 => k_is)
    (case qq_fa23 => k_is)
    (case qq_fl23 => k_is)
    (case qq_fc23 => k_is)
    (case qq_fk23 => k_is)
    (case qq_fa24 => k_is)
    (case qq_fl24 => k_is)
    (case qq_fc24 => k_is)
    (case qq_fk24 => k_is)
    (case qq_fa25 => k_is)
    (case qq_fl25 => k_is)
    (case qq_fc25 => k_is)
    (case qq_fk25 => k_is)
    (case qq_fa26 => k_is)
    (case qq_fl26 => k_is)
    (case qq_fc26 => k_is)
    (case qq_fk26 => k_is)
    (case qq_fa27 => k_is)
    (case qq_fl27 => k_is)
    (case qq_fc27 => k_is)
    (case qq_fk27 => k_is)
    (case qq_fa28 => k_is)
    (case qq_fl28 => k_is)
    (case qq_fc28 => k_is)
    (case qq_fk28 => k_is)
    (case qq_fa29 => k_is)
    (case qq_fl29 => k_is)
    (case qq_fc29 => k_is)
    (case qq_fk29 => k_is)
    (case qq_fa30 => k_is)
    (case qq_fl30 => k_is)
    (case qq_fc30 => k_is)
    (case qq_fk30 => k_is)
    (case qq_fa31 => k_is)
    (case qq_fl31 => k_is)
    (case qq_fc31 => k_is)
    (case qq_fk31 => k_is)
    (case qq_nT1 => kernel_rfl)
    (case qq_nT2 => kernel_rfl)
    (case qq_hh1 => kernel_rfl)
    (case qq_hh2 => kernel_rfl)
#print axioms PySem.Challenge.cw_borderwords_k04_regions_made_read_refuse_holds
