import PyProof.Rows.All
import Wide.All
import OpenK.AllK
import Wide.FinOn
import HandS.ForMost
import HandS.Exc
import HandS.ExcInit
import HandS.IsInst
import HandS.Defaults
import HandS.DictEq
import HandS.OwnEq
import HandS.Zip
import KE.KExcIs
import HandS.Walk
import HandS.Codes
import HandS.Strs
import KE.KEqSeq
import KE.GoesEnum
import KE.GoesMore
import HandS.Call
import HandS.ExcOwn
import PySem.Challenge.RW_toldthere_k02_columns_refused
import HandS.Style
import HandS.More
import HandS.Conv
import HandS.ExcValue
import HandS.ForExc
import HandS.DeepEq
import HandS.ExcField
import HandS.Steps
set_option Elab.async false
set_option linter.all false
set_option maxRecDepth 100000
set_option maxHeartbeats 4000000
namespace Vx
open PySem PySem.W PySem.Calls PyProof.Rows PySem.HandSPX
section
variable {M : Model} {prog : Program} {w : World} {A : Around} {E : Value → Shared → Prop} {R : Result → Shared → Prop} {hp : Heap} {gs : Array GenState} {dr : Drawn} {tk : Nat} {os : OsState}
variable {nm qn : Str} {C N : Addr} {bs bm bmB : List Value} {hdct : Bool} {sn : List Str} {sub : List Value} {ab : Bool} {col : Option Bool} {dd : Option Addr} {k0 k1 k2 k3 k5 : Option Value} {B newId initId : String}

/-- BaseException.__new__ is asked with keywords -/
theorem ck_new (F : ExcBaseFacts B newId initId bmB) (hT : ∀ X : String, bm.contains (.type X) = bmB.contains (.type X)) {ps : List Value} {kw : List (Str × Value)} {Q : Unit → Shared → Prop}
    (hC : hp.get? C = some (excClassObj nm qn C N bs bm hdct sn sub ab col dd k0 k1 k2 k3 k5 newId)) (hq : Q () ⟨hp, gs, dr, tk, os⟩) :
    wpAny M A (checkBuiltinCall newId ⟨.ref C :: ps, kw⟩) Q E ⟨hp, gs, dr, tk, os⟩ := by
  have inB : (Value.ref C :: bm).contains (.type B) = true := by
    rw [List.contains_cons, hT, F.hasB]; exact Bool.or_true _
  have st := F.noStar
  simp only [checkBuiltinCall, F.newKind, F.newSplit, F.newRow]
  repeat (first
    | refine wpAny_loadPart_at hC ?_
    | (refine wpAny_isSubtype_exc hC ?_; rw [inB])
    | refine wpAny_staticBase_exc hC ?_
    | refine wpAny_madeBy_exc hC ?_
    | simp only [bne_self_eq_false, Bool.false_eq_true, if_false]
    | wp_step)
  exact hq
/-- type.__call__ is asked with keywords -/
theorem ck_type {ps : List Value} {kw : List (Str × Value)} {Q : Unit → Shared → Prop}
    (hC : hp.get? C = some (excClassObj nm qn C N bs bm hdct sn sub ab col dd k0 k1 k2 k3 k5 newId)) (hq : Q () ⟨hp, gs, dr, tk, os⟩) :
    wpAny M A (checkBuiltinCall "type.__call__" ⟨.ref C :: ps, kw⟩) Q E ⟨hp, gs, dr, tk, os⟩ := by
  have z3 := tc_sub
  have tyC : (⟨hp, gs, dr, tk, os⟩ : Shared).TypeIs (.ref C) "type" := ⟨_, hC, rfl⟩
  simp only [checkBuiltinCall, tc_kind, tc_split]
  repeat (any_goals (first
    | assumption
    | with_reducible refine wpAny_loadPart_at hC ?_
    | with_reducible refine wpAny_onRaise ?_
    | with_reducible refine wpAny_map ?_
    | wp_step))
/-- BaseException.__new__ run with keywords -/
theorem run_new (F : ExcBaseFacts B newId initId bmB) (hT : ∀ X : String, bm.contains (.type X) = bmB.contains (.type X)) {ps : List Value} {kw : List (Str × Value)}
    (hC : hp.get? C = some (excClassObj nm qn C N bs bm hdct sn sub ab col dd k0 k1 k2 k3 k5 newId)) (hps : ps.length ≤ sizeLine)
    (hq : R (.ok (.ret (.ref (hp.objs.size + 1)))) ⟨(hp.push (kdv_tup ps)).push (excO C hp.objs.size), gs, dr, tk, os⟩) :
    codeAny (model prog w) A (.builtin newId ⟨.ref C :: ps, kw⟩) R ⟨hp, gs, dr, tk, os⟩ := by
  have en := F.ends
  have inB : (Value.ref C :: bm).contains (.type B) = true := by
    rw [List.contains_cons, hT, F.hasB]; exact Bool.or_true _
  have inA : (Value.ref C :: bm).contains (.type "AttributeError") = false := by
    rw [List.contains_cons, hT, F.noAttr]; rfl
  have inN : (Value.ref C :: bm).contains (.type "NameError") = false := by
    rw [List.contains_cons, hT, F.noName]; rfl
  refine codeAny_builtinAt F.entry ?_
  unfold Builtin.«BaseException.__new__»
  refine PySem.wpAt_bind ?_
  show PySem.wpAt _ _ _ (stack >>= _) _ _ _
  refine PySem.wpAt_bind (PySem.wpAt_stack fun x y => PySem.wpAt_of_wpAny ?_)
  wp_walk
  refine PySem.wpAt_of_wpAny ?_
  rw [F.owner]
  repeat (first
    | with_reducible refine wpAny_madeHere_exc F.canon hC ?_
    | with_reducible refine wpAny_loadPart_at hC ?_
    | (with_reducible refine wpAny_isSubtype_exc hC ?_; first | rw [inB] | rw [inA] | rw [inN])
    | wp_step)
  show R _ _
  rw [Heap.size_push]
  exact hq
/-- type.__call__ with keywords: the new exception, then the own __init__ with the same -/
theorem run_type (F : ExcBaseFacts B newId initId bmB) (hT : ∀ X : String, bm.contains (.type X) = bmB.contains (.type X)) {ps : List Value} {kw : List (Str × Value)} {fI : Addr} {Q : Fin → Shared → Prop}
    (hC : hp.get? C = some (excClassObj nm qn C N bs bm hdct sn sub ab col dd k0 k1 k2 k3 k5 newId))
    (hi : Looks (model prog w) hp (typeLookup (.ref C) "__init__") (some (.ref fI))) (hb : ∀ me, Looks (model prog w) hp (bindSpecial (.ref fI) me) (.ref fI, [me])) (hps : ps.length ≤ sizeLine)
    (hq : codeAny (model prog w) A (.call (.ref fI) ⟨.ref (hp.objs.size + 1) :: ps, kw⟩)
      (fun r s' => match r with | .ok (.ret v) => v = .none ∧ Q (.done (.ret (.ref (hp.objs.size + 1)))) s' | .ok _ => False | .error e => E e s')
      ⟨(hp.push (kdv_tup ps)).push (excO C hp.objs.size), gs, dr, tk, os⟩) :
    wpAny (model prog w) A (Builtin.«type.__call__» ⟨.ref C :: ps, kw⟩) Q E ⟨hp, gs, dr, tk, os⟩ := by
  repeat (first
    | with_reducible refine wpAny_loadPart_at hC ?_
    | with_reducible refine wpAny_madeBy_exc hC ?_
    | wp_step)
  refine codeAny_call_builtin_code (Code.quiet_builtin _ F.quiet) (ck_new F hT hC ?_)
  refine run_new F hT hC hps ?_
  show wpAny _ _ _ _ _ _
  have up : ∀ b o, hp.get? b = some o → ((hp.push (kdv_tup ps)).push (excO C hp.objs.size)).get? b = some o := fun b o q =>
    Heap.get?_push_of_some _ (Heap.get?_push_of_some _ q)
  have hC2 := up _ _ hC
  have me : ((hp.push (kdv_tup ps)).push (excO C hp.objs.size)).get? (hp.objs.size + 1) = some (excO C hp.objs.size) := by heap_get
  have inC : (Value.ref C :: bm).contains (.ref C) = true := by simp
  have i2 := hi.keeps up
  have b2 := (hb (.ref (hp.objs.size + 1))).keeps up
  unfold isInstance
  repeat (first
    | with_reducible refine wpAny_loadPart_at me ?_
    | (with_reducible refine wpAny_isSubtype_exc hC2 ?_; rw [inC])
    | wp_step)
  show wpAny _ _ (typeLookup (.ref C) _) _ _ _
  refine i2.at ?_
  refine wpAny_holding (wpAny_bind (b2.at ?_))
  refine wpAny_bind (wpAny_call (codeAny_mono hq fun r s' z => ?_))
  rcases r with e | (v | _ | _ | _) <;> first | exact z | exact z.elim | skip
  obtain ⟨rfl, z⟩ := z
  first
    | exact wpAny_pure (wpAny_pure z)
    | (wp_walk; exact z)
/-- C(.., k = v) -/
theorem run_cls (F : ExcBaseFacts B newId initId bmB) (hT : ∀ X : String, bm.contains (.type X) = bmB.contains (.type X)) {ps : List Value} {kw : List (Str × Value)} {fI : Addr}
    (hC : hp.get? C = some (excClassObj nm qn C N bs bm hdct sn sub ab col dd k0 k1 k2 k3 k5 newId))
    (hi : Looks (model prog w) hp (typeLookup (.ref C) "__init__") (some (.ref fI))) (hb : ∀ me, Looks (model prog w) hp (bindSpecial (.ref fI) me) (.ref fI, [me])) (hps : ps.length ≤ sizeLine)
    (hq : codeAny (model prog w) (A.under (.builtin "type.__call__" ⟨.ref C :: ps, kw⟩)) (.call (.ref fI) ⟨.ref (hp.objs.size + 1) :: ps, kw⟩) (InitBack (hp.objs.size + 1) R)
      ⟨(hp.push (kdv_tup ps)).push (excO C hp.objs.size), gs, dr, tk, os⟩) :
    codeAny (model prog w) A (.call (.ref C) ⟨ps, kw⟩) R ⟨hp, gs, dr, tk, os⟩ := by
  have z1 := tc_lookup
  have z2 := tc_bind (.ref C)
  have tyC : (⟨hp, gs, dr, tk, os⟩ : Shared).TypeIs (.ref C) "type" := ⟨_, hC, rfl⟩
  refine codeAny_of_tree ?_
  show wpAny _ _ (callAny (.ref C) _) _ _ _
  repeat (any_goals (first
    | assumption
    | with_reducible refine wpAny_loadPart_at hC ?_
    | wp_step))
  refine ⟨rfl, ?_⟩
  refine codeAny_call_builtin_at (Code.quiet_builtin _ (by decide +kernel)) entry_typeCall (ck_type hC (run_type F hT hC hi hb hps ?_))
  refine codeAny_mono hq fun r s' z => ?_
  rcases r with e | (v | _ | _ | _) <;> exact z
end
end Vx
namespace L2.Vx
open PySem PySem.Spec PyProof.Rows
/-! ### the layer: an exception as a value -/
/-- what the written part says of a class of errors, further: what isinstance and a field's look ask -/
structure ErC (K : PySem.W.Frag) (C : Addr) : Prop where
  ox : OexC K C
  ga : PySem.W.findIn K (.ref C) "__getattribute__" = some (some (.builtin "BaseException.__getattribute__"))
  gg : PySem.W.findIn K (.ref C) "__getattr__" = some none
  cl : PySem.W.findIn K (.ref C) "__class__" = some (some (.builtin "object.__class__"))
structure Spc (K : PySem.W.Frag) : Prop where
  hn : PySem.W.specialIn K (.builtin "object.__class__") "__get__" = some (some (.builtin "getset_descriptor.__get__"))
  ht : PySem.W.takesIn K (.builtin "object.__class__") = some true
section
variable {X : Cx} {pins : List (Addr × Obj)} {σ : St} {H : Hp} {s : Shared} {C fI : Addr} {k : Nat} {fd : FuncData} {ps ks : List Str} {sp : Sp} {x : Str} {p pos apos : Pos} {e o : Expr} {es : List Expr} {kws : List Keyword} {te : TE} {ta tk : TA}
abbrev NoX : XK := fun _ _ _ => False
/-- the making runs: __init__ finds the new exception at a -/
theorem mkv_run {CX : CXT} {us ar : List Value} {vs : List V} {Q : VK} (T : OexC X.K C) (iC : PySem.W.findIn X.K (.ref C) "__init__" = some (some (.ref fI))) (tI : PySem.W.typeIn X.K (.ref fI) = some (.type "function"))
    (F1 : FnOk X.prog X.w X.K X.mg X.base CX k fI fd ps sp) (hr : Room (k + 1) X.A) (hx : Passes CX X NoX) (I : Inv X pins σ H s) (hl : us.length ≤ sizeLine) (kw : List (Str × Value))
    (hb : ∀ (a : Addr) (s' : Shared), X.K.In s'.heap → BindsTo s' fd ⟨Value.ref a :: us, kw⟩ (ps.zip (.ref a :: ar))) (r : Vals vs ar)
    (h : ∀ a, H a = none → sp (.ref a :: vs) (upd H a (exo a C none)) (fun v H2 => v = .non ∧ Q (.ref a) H2) NoX) :
    wpAny (model X.prog X.w) X.A (call (.ref C) us kw) (EP X pins σ Q) X.xe s := by
  obtain ⟨nm, q, N, bs, bm, sn, sub, ab, col, dd, k0, k1, k2, k3, k5, hC, hbm⟩ := T.cls
  obtain ⟨hp, gs, dr, tk, os⟩ := s
  have na : H (hp.objs.size + 1) = none := I.hok.fresh (Nat.le_succ _)
  have w1 := h _ na
  have up : ∀ b o, hp.get? b = some o → ((hp.push (PySem.W.kdv_tup us)).push (PySem.HandSPX.excO C hp.objs.size)).get? b = some o := fun b o z =>
    Heap.get?_push_of_some _ (Heap.get?_push_of_some _ z)
  have me : ((hp.push (PySem.W.kdv_tup us)).push (PySem.HandSPX.excO C hp.objs.size)).get? (hp.objs.size + 1) = some (PySem.HandSPX.excO C hp.objs.size) := by heap_get
  have J : Inv X pins σ (upd H (hp.objs.size + 1) (exo (hp.objs.size + 1) C none)) ⟨(hp.push (PySem.W.kdv_tup us)).push (PySem.HandSPX.excO C hp.objs.size), gs, dr, tk, os⟩ :=
    Inv.laid (t' := tk) I up (Nat.le_succ _) (exo_ok me)
  refine wpAny_call (_root_.Vx.run_cls F.excBase_ValueError (fun Y => PySem.HandSPX.refsVE_contains Y bm hbm) (I.kIn _ _ hC) (PySem.W.looks_findIn I.kIn iC) (fun self => PySem.W.bind_fn I.kIn self tI) hl ?_)
  have r2 : Vals (V.ref (hp.objs.size + 1) :: vs) (Value.ref (hp.objs.size + 1) :: ar) := .cons rfl r
  refine codeAny_mono (F1.run _ X.stack _ _ ⟨Value.ref (hp.objs.size + 1) :: us, kw⟩ (.ref (hp.objs.size + 1) :: ar) _ _ NoX (hr.make C us kw) (J.env0.make C us kw) (hb _ _ J.kIn) r2 w1) fun res s' z => ?_
  cases res with
  | error er => exact hx pins σ _ _ er s' J z
  | ok fl =>
    cases fl with
    | ret u =>
      obtain ⟨v, H3, J3, rv, ev, q3⟩ := J.after z
      subst ev
      exact ⟨rv, ⟨V.ref (hp.objs.size + 1), H3, J3, rfl, q3⟩⟩
    | next => exact False.elim z
    | brk => exact False.elim z
    | cont => exact False.elim z
/-- C(e) as a value -/
def tMkV (C : Addr) (sp : Sp) (ta : TA) : TE := fun σ H Q => ta σ H fun vs H1 => vs.length ≤ 1000 ∧ ∀ a, H1 a = none → sp (.ref a :: vs) (upd H1 a (exo a C none)) (fun v H2 => v = .non ∧ Q (.ref a) H2) NoX
theorem pe_mkv {CX : CXT} (T : OexC X.K C) (iC : PySem.W.findIn X.K (.ref C) "__init__" = some (some (.ref fI))) (tI : PySem.W.typeIn X.K (.ref fI) = some (.type "function"))
    (F1 : FnOk X.prog X.w X.K X.mg X.base CX k fI fd ps sp) (hr : Room (k + 1) X.A) (hb : Binds X.K fd ps []) (hx : Passes CX X NoX) (hg : Gl X x) (hm : X.mg x = some (.ref C)) (ha : PA X (e :: es) ta)
    (hdb : (x == ("__debug__" : Str)) = false := by decide) (he : starEach (e :: es) X.env = (false, eval e X.env) :: starEach es X.env := by rfl) (hpl : (backTo pos (starEach es X.env)).any (·.1) = false := by rfl) :
    PE X (.Call (.Name x p) (e :: es) [] pos) (tMkV C sp ta) := by
  refine ⟨fun pins s σ H Q I h => ?_⟩
  refine wpAny_Call_Name_kw (ld_glob I hg hm ?_ hdb)
  refine PySem.W.callWith_K (h₀ := X.base) I.ok.mod.kin T.kC (thn (ha.run pos pins s σ H _ I h) fun us s1 ⟨vs, H1, I1, r1, hz, q1⟩ => ⟨I1.kIn, ?_⟩) he hpl
  have hl1 : us.length = vs.length := r1.length.symm
  refine mkv_run (us := us) (ar := us) T iC tI F1 hr hx I1 (by rw [hl1, sizeLine_eq]; omega) [] (fun a s' X' => ?_) r1 q1
  have z := F1.len _ _ _ _ (q1 _ (I1.hok.fresh (Nat.le_refl _)))
  have := hb s' (.ref a :: us) X' (by rw [List.append_nil, List.length_cons, hl1]; exact z)
  rw [List.append_nil] at this
  exact this
/-- C(k = e) as a value -/
theorem pe_mkvK {CX : CXT} (T : OexC X.K C) (iC : PySem.W.findIn X.K (.ref C) "__init__" = some (some (.ref fI))) (tI : PySem.W.typeIn X.K (.ref fI) = some (.type "function"))
    (F1 : FnOk X.prog X.w X.K X.mg X.base CX k fI fd ps sp) (hr : Room (k + 1) X.A) (hx : Passes CX X NoX) (hg : Gl X x) (hm : X.mg x = some (.ref C)) (hkw : PK X kws tk)
    (hb : ∀ (s' : Shared) (us ws : List Value), us.length = 1 → ws.length = ks.length → X.K.In s'.heap → BindsTo s' fd ⟨us, ks.zip ws⟩ (ps.zip (us ++ ws))) (hlk : ps.length = ks.length + 1)
    (hall : (backToKw pos (keywordEach kws X.env)).all (·.1.isSome) = true := by rfl) (hks : (backToKw pos (keywordEach kws X.env)).filterMap (·.1) = ks := by rfl) (hdb : (x == ("__debug__" : Str)) = false := by decide)
    (hpl : ((backTo pos (starEach [] X.env)).any (·.1) || (backToKw pos (keywordEach kws X.env)).any (·.1.isNone)) = false := by rfl) :
    PE X (.Call (.Name x p) [] kws pos) (tMkV C sp tk) := by
  refine ⟨fun pins s σ H Q I h => ?_⟩
  refine wpAny_Call_Name_kw (ld_glob I hg hm ?_ hdb)
  refine PySem.W.callWith_KW0 (h₀ := X.base) I.ok.mod.kin T.kC hall ?_ hpl
  refine thn (hkw.run pos pins s σ H _ I h) fun ws s2 ⟨zs, H2, I2, rz, hz, q2⟩ => ⟨I2.kIn, ?_⟩
  rw [hks]
  have z := F1.len _ _ _ _ (q2 _ (I2.hok.fresh (Nat.le_refl _)))
  have hl1 : ws.length = zs.length := rz.length.symm
  refine mkv_run (us := []) (ar := ws) T iC tI F1 hr hx I2 (Nat.zero_le _) (ks.zip ws) (fun a s' X' => ?_) rz q2
  exact hb s' [.ref a] ws rfl (by rw [hl1]; simp only [List.length_cons] at z; omega) X'
/-- e.f, e an exception that is tracked with its dict -/
def tXf (f : Str) (K : PySem.W.Frag) (te : TE) : TE := fun σ H Q => te σ H fun x H1 => ∃ (a C d : Addr) (fs : List (Str × V)) (v : V), x = .ref a ∧ ErC K C ∧ PySem.W.findIn K (.ref C) f = some none ∧ PySem.W.hasDictIn K C = true ∧
  H1 a = some (exo a C (some d)) ∧ H1 d = some (exd d fs) ∧ fs.lookup f = some v ∧ Q v H1
theorem inst_exo {H : Hp} {h : Heap} {P : Program} {w : World} {a C d : Addr} {od : Obj} (ok : HOk P w H h) (ha : H a = some (exo a C (some d))) (hd : h.get? d = some od) : ∃ ox, PySem.W.InstAt h a ox C (some od) := by
  obtain ⟨t1, ho⟩ := exo_at ok ha
  exact ⟨_, ho, rfl, rfl, hd⟩
theorem pe_xf {f : Str} (he : PE X e te) (hb : attributeBase e f X.env (eval e X.env) = eval e X.env := by rfl) : PE X (.Attribute e f pos) (tXf f X.K te) := by
  refine ⟨fun pins s σ H Q I h => ?_⟩
  refine attr_of hb (thn (he.run pins s σ H _ I h) fun u s1 hh => ?_)
  obtain ⟨x, H1, I1, rx, a, C, d, fs, v, ex, T, hno, hdc, ea, ed, lf, q⟩ := hh
  subst ex
  obtain rfl : u = Value.ref a := rx
  obtain ⟨mA, hns, rel⟩ := exd_at I1.hok ed
  obtain ⟨od, ho, hl⟩ := lookIn_ns hns
  obtain ⟨w', hw, rw'⟩ := RelO.some_of (v := v) (o := mA f) (by rw [← lf]; exact rel f)
  obtain ⟨ox, J⟩ := inst_exo I1.hok ea ho
  exact PySem.HandSPX.exc_get I1.kIn J T.ga T.gg T.ox.exC (PySem.W.findObj_own hdc hno rfl (by rw [hl, hw])) (handed_of rw') ⟨v, H1, I1.tok _, rw', q⟩
/-- isinstance(e, c), e an exception that is tracked with its dict, or without one -/
def rXi (K : PySem.W.Frag) : List V → Hp → VK → Prop := fun xs H Q => ∃ (a C : Addr) (d : Option Addr) (c : V) (u : Value) (b : Bool), xs = [.ref a, c] ∧ ClsV c u ∧ ErC K C ∧ PySem.W.mroIn K C (.type "object") = some true ∧ PySem.W.isClsIn K C = true ∧
  H a = some (exo a C d) ∧ (∀ d', d = some d' → ∃ fs, H d' = some (exd d' fs)) ∧ PySem.W.kitOne K (.ref C) u = some b ∧ Q (.bl b) H
theorem call_xi (S : Spc X.K) : CallR X (.builtin "isinstance") (rXi X.K) := by
  intro pins s σ H xs us Q I r h
  obtain ⟨a, C, d, c, u, b, rfl, k, T, hm, hcl, ea, hd, e, q⟩ := h
  obtain ⟨u1, u2, rfl, r1, r2⟩ := vals2 r
  obtain rfl : u1 = Value.ref a := r1
  have e2 := k.eq r2
  subst e2
  have J : ∃ ox od, PySem.W.InstAt s.heap a ox C od := by
    obtain ⟨t1, ho⟩ := exo_at I.hok ea
    cases d with
    | none => exact ⟨_, none, ho, rfl, rfl, trivial⟩
    | some d' =>
      obtain ⟨fs, ed⟩ := hd d' rfl
      obtain ⟨mA, hns, rel⟩ := exd_at I.hok ed
      obtain ⟨od, ho', hl⟩ := lookIn_ns hns
      exact ⟨_, some od, ho, rfl, rfl, ho'⟩
  obtain ⟨ox, od, J⟩ := J
  exact PySem.W.kia_one (PySem.W.kitx_exc hcl T.ga T.gg T.ox.exC T.cl S.hn S.ht hm) I.kIn J e (fun z => nomatch z) fun tk => ⟨.bl b, H, I.tok tk, rfl, q⟩
end
end L2.Vx

namespace Vy
open PySem
open Sem (wp)
open AutoSeq1 (wpAny_loadPart')
theorem meets_enumT (l : Addr) (items : Array Value) (n : Nat) (dct : Option Addr) (sl : Array (Option Value)) :
    Meets (Builtin.«enumerate.__new__» ⟨[.type "enumerate", .ref l], []⟩) (fun _ R s => s.heap.get? l = some { cls := .type "tuple", dict := dct, data := .seq items n, slots := sl } ∧
      R (.ok (.ret (.ref (s.heap.push { cls := .type "tuple_iterator", data := .fields #[.ref l, .int 0 0] }).objs.size)))
        { s with heap := (s.heap.push { cls := .type "tuple_iterator", data := .fields #[.ref l, .int 0 0] }).push { cls := .type "enumerate", data := .fields #[.none, .bool false, .ref s.heap.objs.size, rawInt 0, .none, .none] } }) :=
  .of_wp fun prog w A R s h => by
    obtain ⟨hp, g, d, tk, os⟩ := s
    obtain ⟨hl, h⟩ := h
    have sb := sub_enumerate
    have hT : Heap.IsTuple (Shared.heap ⟨hp, g, d, tk, os⟩) l items := ⟨_, hl, rfl, n, rfl⟩
    wp_walk using wpAny_loadPart' hl
    refine wpAny_stack_any fun st => wpAny_pure ?_
    split
    · rename_i c _ _ _ _ _
      cases (c == Value.type "enumerate") <;> (wp_walk using wpAny_loadPart' hl, wpAny_pyIter_tuple hT; exact ⟨_, rfl, h⟩)
    · wp_walk using wpAny_loadPart' hl, wpAny_pyIter_tuple hT
      exact ⟨_, rfl, h⟩
theorem call_enumT {prog : Program} {w : World} {A : Around} {E : Value → Shared → Prop} {s : Shared} {l : Addr} {items : Array Value} {Q : Value → Shared → Prop} (hT : s.heap.IsTuple l items)
    (h : ∀ h', IsEnum h' (s.heap.objs.size + 1) s.heap.objs.size 0 .none → h'.IsTupleIter s.heap.objs.size l 0 → h'.objs.size = s.heap.objs.size + 2 →
      (∀ b o, s.heap.get? b = some o → h'.get? b = some o) → Q (.ref (s.heap.objs.size + 1)) { s with heap := h' }) : wpAny (model prog w) A (call (.type "enumerate") [.ref l]) Q E s := by
  obtain ⟨⟨c, dct, dt, sl⟩, hl, hc, n, hd⟩ := hT
  simp only at hc hd
  subst hc hd
  refine callType_new F.called_enumerate (by decide) (F.typeCall_enumerate_1 _) (F.newCall_enumerate_1 _) (fun obj => F.args_object_init_2 obj _) F.entry_enumerate_new (meets_enumT l items n dct sl) ⟨hl, ?_⟩
  show _ ∧ _
  have z : (s.heap.push { cls := .type "tuple_iterator", data := .fields #[.ref l, .int 0 0] }).objs.size = s.heap.objs.size + 1 := Heap.size_push ..
  rw [z]
  have he : IsEnum ((s.heap.push { cls := .type "tuple_iterator", data := .fields #[.ref l, .int 0 0] }).push { cls := .type "enumerate", data := .fields #[.none, .bool false, .ref s.heap.objs.size, rawInt 0, .none, .none] }) (s.heap.objs.size + 1) s.heap.objs.size 0 .none := by
    have q := Heap.get?_push_size (s.heap.push { cls := .type "tuple_iterator", data := .fields #[.ref l, .int 0 0] }) (o := { cls := .type "enumerate", data := .fields #[.none, .bool false, .ref s.heap.objs.size, rawInt 0, .none, .none] }) rfl
    rw [z] at q
    exact q
  refine ⟨⟨_, he, rfl⟩, h _ he ⟨_, Heap.get?_push_of_some _ (Heap.get?_push_size _ rfl), rfl, rfl⟩ (by rw [Heap.size_push, z]) fun b o x => Heap.get?_push_of_some _ (Heap.get?_push_of_some _ x)⟩
end Vy
namespace L2.Vy
open PySem PySem.Spec PyProof.Rows
/-- enumerate over a tuple -/
def IteT (K : PySem.W.Frag) (a : Addr) : It :=
  ⟨fun i H => ∃ (xs : List V) (x : V), SqT K H a xs ∧ xs[i]? = some x,
    fun i H v H' => ∃ T x, v = .ref T ∧ H T = none ∧ H' = upd H T (.tup [.int (i : Nat), x]) ∧ ∀ xs, SqT K H a xs → xs[i]? = some x,
    fun i H => ∃ xs : List V, SqT K H a xs ∧ xs.length = i⟩
theorem turn_eT {P : Program} {w : World} {K : PySem.W.Frag} {elts : List Expr} {kk : Nat} {tpos : Pos} (a e it : Addr) :
    Turn P w K (.Tuple elts kk tpos) (IteT K a) [e, it] e (fun i h => (∃ old, IsEnum h e it ((i : Nat) : Int) old) ∧ h.IsTupleIter it a i ∧ e ≠ it ∧ a ≠ it ∧ e ≠ a) where
  mem := by simp
  obj := fun i h st b hb => by
    obtain ⟨⟨old, he⟩, ⟨o, ho, hc, hd⟩, _⟩ := st
    have eb : b = e ∨ b = it := by simpa using hb
    rcases eb with q | q
    · rw [q]; exact ⟨_, he, fun v z => nomatch z⟩
    · rw [q]; exact ⟨o, ho, fun v z => by rw [hd] at z; cases z⟩
  keep := fun i h h' st k => let ⟨⟨old, he⟩, hi, hn⟩ := st; ⟨⟨old, k e (by simp) _ he⟩, hi.at fun o q => k it (by simp) o q, hn⟩
  item := by
    intro X hP hw hK hc i pins s σ H E I hf st hg
    subst hP hw hK
    obtain ⟨⟨old, he⟩, hit, hne, hai, hea⟩ := st
    obtain ⟨xs, x, hq, hx⟩ := hg
    obtain ⟨its, rv, p, hz⟩ := I.tuple hq
    obtain ⟨u, hu, ru⟩ := rv.get hx
    have hi : i < its.toArray.size := by
      have := (List.getElem?_eq_some_iff.mp hu).1
      simpa using this
    have le : e < s.heap.objs.size := Heap.lt_size he
    have li : it < s.heap.objs.size := by obtain ⟨_, q, _⟩ := hit; exact Heap.lt_size q
    refine wpAny_pyNext_enum_itemD (Draws.tuple (show X.A.in1.handled = none from I.ok.hd hc) it a hai its.toArray) he ⟨hit, p⟩ hi hne (by simp [hne, hea]) fun y h' tk hy ho st' hT hsz hk => ?_
    obtain rfl : u = y := by
      have z : its.toArray[i]? = some u := by simpa using hu
      rw [z] at hy
      exact Option.some.inj hy
    refine ⟨_, rfl, wpAny_letOwnedTupleGo_enum (s := { s with heap := h', toks := tk + 1 }) ho fun h2 he' sb => ?_⟩
    have hT2 : h2.get? s.heap.objs.size = some { cls := .type "tuple", data := .seq #[.int i tk, u] } := (sb.2 _ (Nat.ne_of_gt le)).trans hT
    have new : ObjOk X.prog X.w (upd H s.heap.objs.size (.tup [.int (i : Nat), x])) h2 s.heap.objs.size (.tup [.int (i : Nat), x]) :=
      ⟨by show 2 ≤ sizeLine; decide, [.int i tk, u], .cons ⟨_, rfl⟩ (.cons ru .nil), ⟨_, hT2, rfl, _, rfl⟩⟩
    have J : Inv X pins σ (upd H s.heap.objs.size (.tup [.int (i : Nat), x])) { s with heap := h2, toks := tk + 1 } :=
      I.turnedNew (ch := [e, it]) (fun b ob hb q => (sb.2 b (fun z => hb (by simp [z]))).trans (hk b ob (fun z => hb (by simp [z])) (fun z => hb (by simp [z])) q)) hf (Nat.le_refl _) new
    refine ⟨.ref s.heap.objs.size, _, J, rfl, ⟨_, x, rfl, I.hok.fresh (Nat.le_refl _), rfl, fun ys hy => by rw [I.tuple_inj hy hq]; exact hx⟩, ⟨⟨u, ?_⟩, st'.1.at fun o q => (sb.2 it (Ne.symm hne)).trans q, hne, hai, hea⟩, fun b hb => ?_⟩
    · rw [show ((i + 1 : Nat) : Int) = (i : Int) + 1 by omega]
      exact he'
    · have lb : b < s.heap.objs.size := by
        have eb : b = e ∨ b = it := by simpa using hb
        rcases eb with z | z
        · rw [z]; exact le
        · rw [z]; exact li
      rw [upd_ne (Nat.ne_of_lt lb)]
      exact (hf b hb).1
  done := by
    intro X hP hw hK hc i pins s σ H E I hf st hg
    subst hP hw hK
    obtain ⟨⟨old, he⟩, hit, hne, hai, hea⟩ := st
    obtain ⟨xs, hq, hx⟩ := hg
    obtain ⟨its, rv, p, hz⟩ := I.tuple hq
    obtain ⟨f0, f1, f2, f3, f4, f5⟩ := hf it (by simp)
    have hi : i = its.toArray.size := by
      rw [← hx, rv.length]
      simp
    rw [hi] at hit
    exact wpAny_pyNext_enum_endD (Draws.tuple (show X.A.in1.handled = none from I.ok.hd hc) it a hai its.toArray) he ⟨hit, p⟩ fun h' eb => ⟨rfl, I.turned (t' := s.toks) (fun b o hb q => eb b o hb q) f0 f1 f3 f4 f5⟩
  self := fun A i s Q E st h => let ⟨⟨_, he⟩, _⟩ := st; wpAny_pyIter_enum he h
def iEnT (K : PySem.W.Frag) (ta : TA) : TI := fun σ H R => ta σ H fun vs H1 => ∃ a xs, vs = [.ref a] ∧ SqT K H1 a xs ∧ R (IteT K a) H1
theorem pi_enT {X : Cx} {e : Expr} {ta : TA} {p pos tpos : Pos} {elts : List Expr} {kk : Nat} (hg : Gl X "enumerate") (hm : X.mg "enumerate" = none) (ha : PA X [e] ta) (hs : starEach [e] X.env = [(false, eval e X.env)] := by rfl) :
    PI X (.Tuple elts kk tpos) (.Call (.Name "enumerate" p) [e] [] pos) (iEnT X.K ta) := by
  refine ⟨fun pins s σ H R I h => ?_⟩
  refine Call_ (ld_blt I hg hm boot_enumerate (PyProof.Rows.callWith_type1 (thn (ha.run pos pins s σ H _ I h) fun us s1 ⟨vs, H1, J, r1, q1⟩ => ?_) hs rfl))
  obtain ⟨a, xs, ex, hq, q⟩ := q1
  subst ex
  cases r1 with
  | cons r rr =>
    cases rr
    cases r
    obtain ⟨its, rv, tp, hz⟩ := J.tuple hq
    refine _root_.Vy.call_enumT tp fun h' he hit hsz hk => wpAny_pyIter_enum he ?_
    have J2 : Inv X pins σ H1 { s1 with heap := h' } := J.kept (t' := s1.toks) hk
    have la : a < s1.heap.objs.size := tp.lt
    refine ⟨s1.heap.objs.size + 1, [s1.heap.objs.size + 1, s1.heap.objs.size], _, _, H1, rfl, J2, turn_eT a (s1.heap.objs.size + 1) s1.heap.objs.size, ⟨⟨.none, he⟩, hit, Nat.succ_ne_self _, Nat.ne_of_lt la, Nat.ne_of_gt (Nat.lt_succ_of_lt la)⟩, fun b hb => ?_, q⟩
    have eb : b = s1.heap.objs.size + 1 ∨ b = s1.heap.objs.size := by simpa using hb
    have lb : s1.heap.objs.size ≤ b := by
      rcases eb with z | z
      · rw [z]; exact Nat.le_succ _
      · rw [z]; exact Nat.le_refl _
    exact J.fpOk lb (J.hok.fresh lb)
theorem walk_enT {K : PySem.W.Frag} {a : Addr} {xs : List V} : Walk (IteT K a) xs.length (fun H => SqT K H a xs) (YPair (fun i => some (.int (i : Nat))) (fun i => xs[i]?)) := by
  refine ⟨fun i _ hi q => ⟨xs, xs[i], q, List.getElem?_eq_getElem hi⟩, fun _ q => ⟨xs, q, rfl⟩, fun i H v H' _ q y => ?_⟩
  obtain ⟨T, x, z1, z2, z3, z4⟩ := y
  exact ⟨T, .int (i : Nat), x, z1, z2, z3, rfl, z4 xs q⟩
/-- x in o, o an instance whose class has a __contains__ of its own -/
structure Own1 (K : PySem.W.Frag) (C f : Addr) (m : Str) : Prop where
  hs : PySem.W.findIn K (.ref C) m = some (some (.ref f))
  hf : PySem.W.isFn K (.ref f) = true
def rInO (C : Addr) (sp : Sp) (neg : Bool) : R2 := fun x y H Q => ∃ a dx fs, y = .ref a ∧ H a = some (.ins C dx fs) ∧ sp [.ref a, x] H (fun v H' => ∃ b : Bool, v = .bl b ∧ Q (.bl (neg != b)) H') (fun _ _ _ => False)
section
variable {X : Cx} {CX : CXT} {k : Nat} {f C : Addr} {fd : FuncData} {ps : List Str} {sp : Sp}
theorem op_notInO (F : FnOk X.prog X.w X.K X.mg X.base CX k f fd ps sp) (hr : Room k X.A) (O : Own1 X.K C f "__contains__") (hb : Binds X.K fd ps []) (hx : Passes CX X (fun _ _ _ => False)) : OpR X (compareOp .NotIn) (rInO C sp true) := by
  intro pins s σ H x y v u Q I rx ry h
  obtain ⟨a, dx, fs, rfl, ha, q⟩ := h
  obtain rfl : u = Value.ref a := ry
  obtain ⟨mA, J, _⟩ := ins_get I.hok ha
  obtain ⟨od, J, _⟩ := J.look
  obtain ⟨m, fr⟩ := I.fr
  refine PySem.W.notIn_K fr I.ok.mod.kin J O.hs O.hf ?_
  refine thn (run_fn (dvs := []) (ds := []) F hr hb .nil hx I (show Vals [V.ref a, x] [Value.ref a, v] from .cons (show RelV (V.ref a) (Value.ref a) from rfl) (.cons rx .nil)) q) fun u' s1 hq => ?_
  obtain ⟨z, H', I', rz, b, ez, hq⟩ := hq
  subst ez
  obtain rfl : u' = Value.bool b := rz
  exact wpAny_truthy_bool ⟨.bl (true != b), H', I', by cases b <;> rfl, hq⟩
theorem op_inO (F : FnOk X.prog X.w X.K X.mg X.base CX k f fd ps sp) (hr : Room k X.A) (O : Own1 X.K C f "__contains__") (hb : Binds X.K fd ps []) (hx : Passes CX X (fun _ _ _ => False)) : OpR X (compareOp .In) (rInO C sp false) := by
  intro pins s σ H x y v u Q I rx ry h
  obtain ⟨a, dx, fs, rfl, ha, q⟩ := h
  obtain rfl : u = Value.ref a := ry
  obtain ⟨mA, J, _⟩ := ins_get I.hok ha
  obtain ⟨od, J, _⟩ := J.look
  obtain ⟨m, fr⟩ := I.fr
  refine PySem.W.in_K fr I.ok.mod.kin J O.hs O.hf ?_
  refine thn (run_fn (dvs := []) (ds := []) F hr hb .nil hx I (show Vals [V.ref a, x] [Value.ref a, v] from .cons (show RelV (V.ref a) (Value.ref a) from rfl) (.cons rx .nil)) q) fun u' s1 hq => ?_
  obtain ⟨z, H', I', rz, b, ez, hq⟩ := hq
  subst ez
  obtain rfl : u' = Value.bool b := rz
  exact wpAny_truthy_bool ⟨.bl (false != b), H', I', by cases b <;> rfl, hq⟩
/-- list.count of a text -/
def rCntS (K : PySem.W.Frag) : V → List V → Hp → VK → Prop := fun x xs H Q => ∃ (p : Addr) (ys : List Str) (k : Str), x = .ref p ∧ xs = [.str k] ∧ SqL K H p (ys.map V.str) ∧ Q (.int (ys.countP (· == k) : Nat)) H
def isS (k : Str) : Value → Bool
  | .str x _ => x == k
  | _ => false
theorem isS_at {A : Around} {s : Shared} {k : Str} {t : Tok} : ∀ {us : List Value} {ys : List Str}, Vals (ys.map V.str) us → ∀ y ∈ us, SeqAt.EqAt A s y (.str k t) (isS k y)
  | [], [], _, y, h => by simp at h
  | u :: us, y0 :: ys, .cons r rr, y, h => by
    rcases List.mem_cons.mp h with e | h
    · subst e
      obtain ⟨t', rfl⟩ := r
      intro prog w E Q hq
      refine wpAny_eqBool_str ?_
      show Q (decide (y0 = k)) s
      have : isS k (.str y0 t') = decide (y0 = k) := by
        show (y0 == k) = _
        by_cases e : y0 = k
        · rw [e]; simp
        · rw [decide_eq_false e]; simpa using e
      rw [← this]
      exact hq
    · exact isS_at rr y h
theorem isS_count {k : Str} : ∀ {us : List Value} {ys : List Str}, Vals (ys.map V.str) us → us.countP (isS k) = ys.countP (· == k)
  | [], [], _ => rfl
  | u :: us, y :: ys, .cons r rr => by
    obtain ⟨t', rfl⟩ := r
    rw [List.countP_cons, List.countP_cons, isS_count rr]
    rfl
theorem mt_scount : MtR X "list.count" (rCntS X.K) := by
  intro pins s σ H x xs v us Q I rx rxs h
  obtain ⟨p, ys, k, rfl, rfl, hs, q⟩ := h
  obtain rfl : v = Value.ref p := rx
  obtain ⟨u, rfl, ru⟩ := rxs.one
  obtain ⟨t, rfl⟩ := ru
  obtain ⟨its, rv, ⟨⟨cls, dd, data, sl⟩, n, ho, hc, hdn, hd⟩, hlen⟩ := I.list hs
  simp only at hc hd
  subst hc hd
  refine call_meets PySem.F.slot_list_count ⟨_, ho, rfl⟩ PySem.F.entry_list_count (PySem.F.args_list_count_2 _ _) (SeqAt.list_countAt p its.toArray n dd sl (.str k t) (isS k)) ⟨ho, fun y hy => isS_at rv y (by simpa using hy), ?_⟩
  refine ⟨.int (ys.countP (· == k) : Nat), H, I.tok _, ⟨s.toks, ?_⟩, q⟩
  rw [← isS_count rv]
end
end L2.Vy

namespace Vs
open PySem PySem.Spec PyProof.Rows SS
/-- which of the first i texts stand there -/
abbrev seen (xs : List Str) (i : Nat) : Str → Bool := fun y => (xs.take i).any (· == y)
/-- how many different ones -/
def dcn (xs : List Str) : Nat → Nat
  | 0 => 0
  | i + 1 => if seen xs i (xs.getD i Str.empty) = true then dcn xs i else dcn xs i + 1
theorem dcn_le (xs : List Str) : ∀ i, dcn xs i ≤ i
  | 0 => Nat.le_refl _
  | i + 1 => by
    have := dcn_le xs i
    unfold dcn
    split <;> omega
theorem getD_at {xs : List Str} {i : Nat} (h : i < xs.length) : xs[i]? = some (xs.getD i Str.empty) := by
  rw [List.getD_eq_getElem?_getD, List.getElem?_eq_getElem h]
  rfl
theorem take_one : ∀ {l : List Str} {i : Nat} {x : Str}, l[i]? = some x → l.take (i + 1) = l.take i ++ [x]
  | [], i, x, h => by simp at h
  | a :: l, 0, x, h => by
    have e : a = x := Option.some.inj h
    rw [e]; rfl
  | a :: l, i + 1, x, h => by
    have ih := take_one (l := l) (i := i) (x := x) h
    rw [List.take_succ_cons, ih]; rfl
theorem seen_next {xs : List Str} {i : Nat} (h : i < xs.length) (y : Str) : seen xs (i + 1) y = (seen xs i y || decide (y = xs.getD i Str.empty)) := by
  unfold seen
  rw [take_one (getD_at h), List.any_append]
  congr 1
  by_cases e : y = xs.getD i Str.empty
  · rw [decide_eq_true e, e]; simp
  · rw [decide_eq_false e]
    have : (xs.getD i Str.empty == y) = false := by simpa using fun z => e z.symm
    simp only [List.any_cons, List.any_nil, Bool.or_false]
    exact this
section
variable {prog : Program} {w : World} {A : Around} {R : Result → Shared → Prop} {J : Addr} {fp wr : List Addr} {G : Array GenState → Array GenState → Prop} {n : Nat} {Pi : Nat → Value → Prop} {St : Nat → Shared → Prop}
theorem fill (W : WalksS prog w A.in1 J fp wr G n Pi St) (a : Addr) (na : a ∉ fp) (xs : List Str) (hz : xs.length = n) (hb : n + 1 < scanBound) (hv : ∀ i v, Pi i v → ∃ t, v = .str (xs.getD i Str.empty) t) :
    ∀ (k i : Nat) (s : Shared), n - i = k → i ≤ n → St i s → s.heap.SetOf (PySem.strKind prog w) a (seen xs i) (dcn xs i) →
      (∀ s', Moved (a :: wr) G s s' → s'.heap.SetOf (PySem.strKind prog w) a (seen xs n) (dcn xs n) → R (.ok (.ret .none)) s') → codeAny (model prog w) A (.builtin "set.update.loop" ⟨[.ref a, .ref J], []⟩) R s := by
  have nw : a ∉ wr := fun q => na (W.sub _ q)
  have up : ∀ b ∈ wr, b ∈ a :: wr := fun b q => List.mem_cons_of_mem _ q
  intro k
  induction k with
  | zero =>
    intro i s hk hi st gS hR
    obtain rfl : i = n := by omega
    refine codeAny_builtin PyProof.Rows.F.entry_set_update_loop ?_
    rw [Around.under_plainId PyProof.Rows.F.plain_set_update_loop _]
    show wpAny _ A.in1 (pyNext (.ref J) >>= _) _ _ s
    refine wpAny_bind (W.done s _ _ st fun s' mv => ?_)
    show wpAny _ A.in1 (ret Value.none) _ _ s'
    obtain ⟨o, es, ep, t, ho, r⟩ := gS
    exact wpAny_pure (hR s' (mv.mono up) ⟨o, es, ep, t, mv.heap a _ nw ho, r⟩)
  | succ k ih =>
    intro i s hk hi st gS hR
    have lt : i < n := by omega
    refine codeAny_builtin PyProof.Rows.F.entry_set_update_loop ?_
    rw [Around.under_plainId PyProof.Rows.F.plain_set_update_loop _]
    show wpAny _ A.in1 (pyNext (.ref J) >>= _) _ _ s
    refine wpAny_bind (W.item i s _ _ lt st fun v s' pv st' mv => ?_)
    obtain ⟨t, rfl⟩ := hv i v pv
    have gS1 : s'.heap.SetOf (PySem.strKind prog w) a (seen xs i) (dcn xs i) := by
      obtain ⟨o, es, ep, tb, ho, r⟩ := gS
      exact ⟨o, es, ep, tb, mv.heap a _ nw ho, r⟩
    show wpAny _ A.in1 (holding [Value.str (xs.getD i Str.empty) t] (setAdd a (.str (xs.getD i Str.empty) t)) >>= _) _ _ s'
    refine wpAny_bind (wpAny_holding ?_)
    unfold setAdd
    refine wpAny_holding (wpAny_bind ((PySem.strKind prog w).pyHash (k := xs.getD i Str.empty) (strKind_is _ _ _ _) ?_))
    have rm : dcn xs i + 1 < scanBound := by have := dcn_le xs i; omega
    refine wpAny_setAddHashed_of (knd := PySem.strKind prog w) (s := { s' with toks := s'.toks + 1 }) (strKind_is _ _ _ _) rfl gS1 rm fun h' sb gS2 => ?_
    have gS3 : h'.SetOf (PySem.strKind prog w) a (seen xs (i + 1)) (dcn xs (i + 1)) := SetOf_congr gS2 (fun y => (seen_next (by omega) y).symm) rfl
    refine wpAny_pure ⟨plainId_quiet PyProof.Rows.F.plain_set_update_loop _, ih (i + 1) _ (by omega) lt (W.frame _ s' _ _ st' (Nat.le_succ _) fun b q o e => ?_) gS3 fun s2 mv2 gS4 => ?_⟩
    · rw [sb.2 b (fun z : b = a => na (by rw [← z]; exact q))]; exact e
    · refine hR s2 (Moved.trans W.gtrans ((mv.mono up).then_heap (Nat.le_succ _) fun b o q e => ?_) mv2) gS4
      rw [sb.2 b (fun z : b = a => q (by rw [z]; exact List.mem_cons_self))]; exact e
end
abbrev newSet (led : Bool) : Obj := { cls := .type "set", dict := none, data := .set #[] 0 (.fresh 0 0 led) }
section
variable {prog : Program} {w : World} {A : Around} {E : Value → Shared → Prop} {s : Shared}
/-- set(v) of a list or a tuple of texts: T its class, oi what its iterator is -/
theorem call_set {T : String} {oi : Obj} {l : Addr} {items : Array Value} {xs : List Str} {Q : Value → Shared → Prop} {Hl : Heap → Prop} {Si : Addr → Nat → Heap → Prop} (hl : Hl s.heap) (B : Begins (.ref l) oi Hl) (hT : ∀ h, Hl h → ∃ o, h.get? l = some o ∧ o.cls = .type T)
    (s1 : isSubtype (.type T) (.type "set") = pure false) (s2 : isSubtype (.type T) (.type "frozenset") = pure false) (ne : (Value.type T == Value.type "dict") = false) (ndc : T ≠ "dict")
    (W : ∀ J, l ≠ J → Walks prog w A.in1.in1.in1 J [J, l] [J] items.size (fun i v => items[i]? = some v) (Si J)) (S0 : ∀ h J, h.get? J = some oi → Hl h → Si J 0 h)
    (hi : StrsAre items.toList xs) (hb : xs.length + 1 < scanBound)
    (h : ∀ (h' : Heap) (tk : Nat), h'.SetOf (PySem.strKind prog w) s.heap.objs.size (seen xs xs.length) (dcn xs xs.length) → (∀ b o, b < s.heap.objs.size → s.heap.get? b = some o → h'.get? b = some o) → Q (.ref s.heap.objs.size) { s with heap := h', toks := tk }) :
    wpAny (model prog w) A (call (.type "set") [.ref l]) Q E s := by
  obtain ⟨c, tl, hmro⟩ := PySem.F.called_set.mro
  have z1 := PySem.F.called_set.made
  have z2 := PySem.F.called_set.sub
  refine wpAny_call (codeAny_of_tree ?_)
  show wpAny _ _ (callAny (.type "set") _) _ _ _
  refine wpAny_pure ⟨Code.quiet_builtin _ (by decide +kernel), codeAny_builtin PySem.F.entry_type_call ?_⟩
  rw [Around.under_plain (weight_type_call_type "set" [.ref l] []) rfl]
  have z3 := PySem.F.called_set.notType
  have z4 := PySem.F.called_set.canCreate
  have z5 := PySem.F.typeCall_set_1 (.ref l)
  repeat (any_goals (first | assumption | wp_step))
  refine codeAny_mono (code_set_new_1 (.ref l) (E := E) (Q₁ := fun ob t => ∃ led : Bool, ob = .ref s.heap.objs.size ∧ t = { s with heap := s.heap.push (newSet led) }) fun led => ⟨led, rfl, rfl⟩) fun r t hr => ?_
  cases r with
  | error e => exact hr
  | ok fl =>
    cases fl with
    | next => exact hr.elim
    | brk => exact hr.elim
    | cont => exact hr.elim
    | ret ob =>
      obtain ⟨led, rfl, rfl⟩ := hr
      have gA : (s.heap.push (newSet led)).get? s.heap.objs.size = some (newSet led) := Heap.get?_push_size _ rfl
      have tA : Shared.TypeIs { s with heap := s.heap.push (newSet led) } (.ref s.heap.objs.size) "set" := ⟨_, gA, rfl⟩
      have z6 := PySem.F.called_set.init.lookup
      have z7 := PySem.F.called_set.init.bind (.ref s.heap.objs.size)
      repeat (any_goals (first | assumption | wp_step))
      refine codeAny_mono (codeAny_call_builtin (R := wants (fun r t => r = .none ∧ ∃ h' tk, t = { s with heap := h', toks := tk } ∧ h'.SetOf (PySem.strKind prog w) s.heap.objs.size (seen xs xs.length) (dcn xs xs.length) ∧
          (∀ b o, b < s.heap.objs.size → s.heap.get? b = some o → h'.get? b = some o)) E) PySem.F.called_set.init.plain PySem.F.entry_set_init (check_set_init_1 tA ?_)) fun r2 t2 hr2 => ?_
      · have hl1 : Hl (s.heap.push (newSet led)) := B.keeps _ _ hl fun b o e => Heap.get?_push_of_some _ e
        obtain ⟨ol, hol, hcl⟩ := hT _ hl
        have hol1 : (s.heap.push (newSet led)).get? l = some ol := Heap.get?_push_of_some _ hol
        have tL : Shared.TypeIs { s with heap := s.heap.push (newSet led) } (.ref l) T := ⟨_, hol1, hcl⟩
        unfold Builtin.«set.__init__» noKeywords Builtin.Frozenset.updateFrom
        generalize hPI : pyIter = PI
        wp_walk
        subst hPI
        refine B.iter _ _ _ _ _ _ hl1 ?_
        refine wpAny_bind (wpAny_runValue ?_)
        have ll : l < s.heap.objs.size := Heap.lt_size hol
        have zJ : (s.heap.push (newSet led)).objs.size = s.heap.objs.size + 1 := Heap.size_push ..
        have nJ : l ≠ (s.heap.push (newSet led)).objs.size := by rw [zJ]; exact Nat.ne_of_lt (Nat.lt_succ_of_lt ll)
        have nA : s.heap.objs.size ∉ [(s.heap.push (newSet led)).objs.size, l] := by
          rw [zJ]
          simp only [List.mem_cons, List.not_mem_nil, or_false, not_or]
          exact ⟨Nat.ne_of_lt (Nat.lt_succ_self _), Nat.ne_of_gt ll⟩
        have hz : xs.length = items.size := by rw [← StrsAre.len_eq hi, Array.length_toList]
        have hl2 : Hl ((s.heap.push (newSet led)).push oi) := B.keeps _ _ hl1 fun b o e => Heap.get?_push_of_some _ e
        have gA2 : ((s.heap.push (newSet led)).push oi).get? s.heap.objs.size = some (newSet led) := Heap.get?_push_of_some _ gA
        refine fill ((W _ nJ).toS) s.heap.objs.size nA xs hz (by rw [← hz]; exact hb) (fun i v hv => strs_at hi i v (by rw [Array.getElem?_toList]; exact hv)) (items.size - 0) 0 _ (by omega) (Nat.zero_le _)
          (S0 _ _ (Heap.get?_push_size _ B.free) hl2) (SetOf_congr ((setObjOf_fresh (knd := PySem.strKind prog w) led).setOf gA2 (by unfold scanBound; omega)) (fun _ => rfl) rfl) fun s' mv gS => ?_
        obtain ⟨h', g', d', tk', os'⟩ := s'
        obtain rfl : g' = s.gens := mv.gens
        obtain rfl : d' = s.drawn := mv.drawn
        obtain rfl : os' = s.os := mv.os
        show wpAny _ _ _ _ _ _
        refine wpAny_pure ?_
        show wpAny _ _ (ret Value.none) _ _ _
        rw [← hz] at gS
        refine wpAny_pure ⟨rfl, h', tk', rfl, gS, fun b o q e => ?_⟩
        have b1 : b ≠ s.heap.objs.size := Nat.ne_of_lt q
        have b2 : b ≠ (s.heap.push (newSet led)).objs.size := by rw [zJ]; exact Nat.ne_of_lt (Nat.lt_succ_of_lt q)
        exact mv.heap b o (by simp only [List.mem_cons, List.not_mem_nil, or_false, not_or]; exact ⟨b1, b2⟩) (Heap.get?_push_of_some _ (Heap.get?_push_of_some _ e))
      · cases r2 with
        | error e => exact hr2
        | ok fl2 =>
          cases fl2 with
          | next => exact hr2.elim
          | brk => exact hr2.elim
          | cont => exact hr2.elim
          | ret r =>
            obtain ⟨rfl, h', tk, rfl, gS, kp⟩ := hr2
            repeat (any_goals (first | assumption | wp_step))
            exact h _ _ gS kp
end
/-! ### what the number of different texts tells -/
theorem dcn_nodup {xs : List Str} : ∀ {i : Nat}, i ≤ xs.length → (dcn xs i = i ↔ (xs.take i).Nodup)
  | 0, _ => by simp [dcn]
  | i + 1, h => by
    have ih := dcn_nodup (xs := xs) (i := i) (by omega)
    have le := dcn_le xs i
    have lt : i < xs.length := by omega
    rw [take_one (getD_at lt), List.nodup_append]
    unfold dcn
    by_cases q : seen xs i (xs.getD i Str.empty) = true
    · rw [if_pos q]
      have mem : xs.getD i Str.empty ∈ xs.take i := by
        obtain ⟨y, hy, e⟩ := List.any_eq_true.mp q
        have : y = xs.getD i Str.empty := by simpa using e
        rw [← this]; exact hy
      constructor
      · intro z; omega
      · intro z; exact absurd rfl (z.2.2 _ mem _ (by simp))
    · rw [if_neg q]
      have nmem : xs.getD i Str.empty ∉ xs.take i := fun hm => q (List.any_eq_true.mpr ⟨_, hm, by simp⟩)
      constructor
      · intro z
        refine ⟨ih.mp (by omega), by simp, fun a ha b hb e => ?_⟩
        have : b = xs.getD i Str.empty := by simpa using hb
        rw [e, this] at ha
        exact nmem ha
      · intro z
        have := ih.mpr z.1
        omega
end Vs
namespace L2.Vs
open PySem PySem.Spec PyProof.Rows _root_.Vs
/-- len(set(xs)), xs a list or tuple of some texts -/
def tLenS (K : PySem.W.Frag) (ta : TE) : TE := fun σ H Q => ta σ H fun x H1 => ∃ l, ∃ xs : List Str, x = .ref l ∧ (SqL K H1 l (xs.map V.str) ∨ SqT K H1 l (xs.map V.str)) ∧ xs.length ≤ 100 ∧ Q (.int (dcn xs xs.length)) H1
theorem pe_lenS {X : Cx} {a : Expr} {ta : TE} {p p2 q pos : Pos} (hc : X.calm = true) (hg : Gl X "len") (hm : X.mg "len" = none) (hg2 : Gl X "set") (hm2 : X.mg "set" = none) (ha : PE X a ta)
    (na : starEach [a] X.env = (false, eval a X.env) :: starEach [] X.env := by rfl) : PE X (.Call (.Name "len" p) [.Call (.Name "set" p2) [a] [] q] [] pos) (tLenS X.K ta) := by
  refine ⟨fun pins s σ H Q I h => ?_⟩
  refine Call_ (ld_blt I hg hm boot_len (PyProof.Rows.callWith_builtin1 (PyProof.Rows.args_cons ?_ rfl) rfl rfl))
  refine Call_ (ld_blt I hg2 hm2 boot_set (PyProof.Rows.callWith_type1 (PyProof.Rows.args_cons (thn (ha.run pins s σ H _ I h) fun v s1 ⟨x, H1, J, r1, q1⟩ => PyProof.Rows.args_nil ?_) na) na rfl))
  obtain ⟨l, xs, rfl, hq, hn, q1⟩ := q1
  obtain rfl : v = Value.ref l := r1
  have hh := J.ok.hd hc
  have sc : xs.length + 1 < scanBound := by unfold scanBound; omega
  have fin : ∀ (h' : Heap) (tk : Nat), h'.SetOf (PySem.strKind X.prog X.w) s1.heap.objs.size (seen xs xs.length) (dcn xs xs.length) → (∀ b o, b < s1.heap.objs.size → s1.heap.get? b = some o → h'.get? b = some o) →
      wpAny (model X.prog X.w) X.A (spliced (backTo pos (starEach [] X.env))) (fun vs s₂ => wpAny (model X.prog X.w) X.A (call (.builtin "len") (Value.ref s1.heap.objs.size :: vs)) (EP X pins σ Q) X.xe s₂) X.xe { s1 with heap := h', toks := tk } := fun h' tk gS kp => by
    refine PyProof.Rows.args_nil ?_
    have ld := dcn_le xs xs.length
    obtain ⟨o, es, ep, t, ho, hex, hd, _, _, _, hf, hnn⟩ := gS
    have J2 : Inv X pins σ H1 { s1 with heap := h', toks := tk } := J.kept fun b o e => kp b o (Heap.lt_size e) e
    exact call_len_set ho hex hd hf (by rw [hnn]; omega) ⟨.int (dcn xs xs.length), H1, J2.tok _, ⟨_, by rw [hnn]⟩, q1⟩
  rcases hq with hq | hq
  · obtain ⟨its, r, pl, hz⟩ := J.list hq
    refine call_set (T := "list") (items := its.toArray) (Si := fun J i h => h.IsListIter J l i ∧ h.IsList l its.toArray) (Hl := fun h => h.IsList l its.toArray) pl.isList (begins_list l its.toArray) (fun h z => let ⟨o, ho, hc, _⟩ := z; ⟨o, ho, hc⟩) PySem.F.sub_list_set PySem.F.sub_list_frozenset (by decide) (by decide)
      (fun J' ne => Walks.list (show X.A.in1.in1.in1.handled = none from hh) J' l ne its.toArray) (fun h J' e z => ⟨⟨_, e, rfl, rfl⟩, z⟩) (by simpa using strsAre_of r) sc fin
  · obtain ⟨its, r, pl, hz⟩ := J.tuple hq
    refine call_set (T := "tuple") (items := its.toArray) (Si := fun J i h => h.IsTupleIter J l i ∧ h.IsTuple l its.toArray) (Hl := fun h => h.IsTuple l its.toArray) pl (begins_tuple l its.toArray) (fun h z => let ⟨o, ho, hc, _⟩ := z; ⟨o, ho, hc⟩) PySem.F.sub_tuple_set PySem.F.sub_tuple_frozenset (by decide) (by decide)
      (fun J' ne => Walks.tuple (show X.A.in1.in1.in1.handled = none from hh) J' l ne its.toArray) (fun h J' e z => ⟨⟨_, e, rfl, rfl⟩, z⟩) (by simpa using strsAre_of r) sc fin
end L2.Vs

/-! An own class made, and a method called, where an exception may be caught: what is wanted of it may speak of the slots. -/
namespace L2.Vm
open PySem PySem.Spec PyProof.Rows
section
variable {X : Cx} {CX : CXT} {k : Nat} {f C : Addr} {fd : FuncData} {ps : List Str} {sp : Sp} {E : St → XK} {x m : Str} {p pos apos : Pos} {e o : Expr} {es : List Expr} {ta : TE} {t : TA}
def tMakeS (C : Addr) (sp : Sp) (E : St → XK) (t : TA) : TE := fun σ H Q => t σ H fun vs H1 => ∀ x dx, H1 x = none → H1 dx = none → dx ≠ x →
  sp (.ref x :: vs) (upd (upd H1 dx (.own x)) x (.ins C dx [])) (fun v H2 => v = .non ∧ Q (.ref x) H2) (E σ)
theorem run_makeS {pins : List (Addr × Obj)} {σ : St} {H : Hp} {s : Shared} {Q : VK} {us : List Value} {vs : List V} (M : Mk X.K C f) (F : FnOk X.prog X.w X.K X.mg X.base CX k f fd ps sp) (hr : Room (k + 1) X.A) (hb : Binds X.K fd ps [])
    (hx : PassesAt CX X σ (E σ)) (I : Inv X pins σ H s) (r : Vals vs us)
    (h : ∀ x dx, H x = none → H dx = none → dx ≠ x → sp (.ref x :: vs) (upd (upd H dx (.own x)) x (.ins C dx [])) (fun v H2 => v = .non ∧ Q (.ref x) H2) (E σ)) :
    wpAny (model X.prog X.w) X.A (call (.ref C) us) (EP X pins σ Q) X.xe s := by
  have hq := h (s.heap.objs.size + 1) s.heap.objs.size (I.hok.fresh (Nat.le_succ _)) (I.hok.fresh (Nat.le_refl _)) (Nat.ne_of_lt (Nat.lt_succ_self _))
  have I2 := Inv.made (C := C) I
  have r2 : Vals (V.ref (s.heap.objs.size + 1) :: vs) (Value.ref (s.heap.objs.size + 1) :: us) := .cons rfl r
  have hl : (Value.ref (s.heap.objs.size + 1) :: us).length = ps.length := by
    have e := r2.length
    rw [F.len _ _ _ _ hq] at e
    exact e.symm
  have b := hb _ (Value.ref (s.heap.objs.size + 1) :: us) I2.kIn (by rw [List.append_nil]; exact hl)
  rw [List.append_nil] at b
  refine wpAny_call (make_map (f := f) I.kIn M.makes M.init (beq_iff_eq.mp M.fn) (codeAny_mono (F.run _ X.stack _ _ ⟨Value.ref (s.heap.objs.size + 1) :: us, []⟩ (Value.ref (s.heap.objs.size + 1) :: us) _ _ (E σ) (hr.make C us [])
    (I2.env0.make C us []) b r2 hq) fun r s' hq' => ?_))
  cases r with
  | error e => exact hx pins _ _ e s' I2 hq'
  | ok fl =>
    cases fl with
    | ret u =>
      obtain ⟨v, H', I3, rv, ev, q3⟩ := I2.after hq'
      subst ev
      exact ⟨rv, ⟨V.ref (s.heap.objs.size + 1), H', I3, rfl, q3⟩⟩
    | next => exact False.elim hq'
    | brk => exact False.elim hq'
    | cont => exact False.elim hq'
theorem pe_makeS (M : Mk X.K C f) (F : FnOk X.prog X.w X.K X.mg X.base CX k f fd ps sp) (hr : Room (k + 1) X.A) (hg : Gl X x) (hm : X.mg x = some (.ref C)) (hb : Binds X.K fd ps []) (hx : ∀ σ, PassesAt CX X σ (E σ))
    (ha : PA X (e :: es) t) (hdb : (x == ("__debug__" : Str)) = false := by decide) (he : starEach (e :: es) X.env = (false, eval e X.env) :: starEach es X.env := by rfl) (hpl : (backTo pos (starEach es X.env)).any (·.1) = false := by rfl) :
    PE X (.Call (.Name x p) (e :: es) [] pos) (tMakeS C sp E t) := by
  refine ⟨fun pins s σ H Q I h => ?_⟩
  refine wpAny_Call_Name_kw (ld_glob I hg hm ?_ hdb)
  refine PySem.W.callWith_K (h₀ := X.base) I.ok.mod.kin M.kp (thn (ha.run pos pins s σ H _ I h) fun us s1 ⟨vs, H1, I1, r, q⟩ => ⟨I1.kIn, ?_⟩) he hpl
  exact run_makeS M F hr hb (hx σ) I1 r q
def tMethS1 (C : Addr) (m : Str) (sp : Sp) (E : St → XK) (ta : TE) (t : TA) : TE := fun σ H Q => ta σ H fun x H1 => ∃ a dx fs, x = .ref a ∧ H1 a = some (.ins C dx fs) ∧ fs.lookup m = none ∧
  t σ H1 fun vs H2 => sp (x :: vs) H2 Q (E σ)
theorem pe_methS {pl : Sem Bool} (he : PE X o ta) (c : Cls X.K C) (hm : Meth X.K C m f) (F : FnOk X.prog X.w X.K X.mg X.base CX k f fd ps sp) (hr : Room k X.A) (hb : Binds X.K fd ps []) (hx : ∀ σ, PassesAt CX X σ (E σ)) (ha : PA X (e :: es) t)
    (hst : starEach (e :: es) X.env = (false, eval e X.env) :: starEach es X.env := by rfl) (hpl : (backTo pos (starEach es X.env)).any (·.1) = false := by rfl)
    (ht : eval (.Call (.Attribute o m apos) (e :: es) [] pos) X.env = (do
      let ov ← eval o X.env
      standAt apos.atName
      let (f, first) ← holding [ov] (getMethod ov m pl)
      callWith pos f first (backTo pos (starEach (e :: es) X.env)) (backToKw pos (keywordEach [] X.env))) := by rfl) :
    PE X (.Call (.Attribute o m apos) (e :: es) [] pos) (tMethS1 C m sp E ta t) := by
  refine ⟨fun pins s σ H Q I h => ?_⟩
  refine PySem.W.methodCall_KW (pl := pl) (thn (he.run pins s σ H _ I h) fun u s1 ⟨x, H1, I1, rx, a, dx, fs, ex, ea, l, q⟩ => ?_) ht
  subst ex
  obtain rfl : u = Value.ref a := rx
  refine getmeth_ok I1 ea c hm l ?_
  refine PySem.W.callWith_K (first := [.ref a]) (h₀ := X.base) I.ok.mod.kin hm.kp (thn (ha.run pos pins s1 σ H1 _ I1 q) fun us s2 ⟨vs, H2, I2, r, q2⟩ => ⟨I2.kIn, ?_⟩) hst hpl
  exact run_fnS (us := .ref a :: us) (vs := .ref a :: vs) F hr hb (hx σ) I2 (.cons rfl r) q2
end
end L2.Vm

/-! Each error of the package, made with any objects: the law's own helpers. -/
namespace L2.E2
open PySem PySem.Spec PyProof.Rows L2.Vx
def top (i : Nat) : Stmt := PySem.Challenge.pw_toldthere_k02_columns_refused.main.body.getD i (.Pass ⟨0, 0, 0, 0⟩)
abbrev sDraw : Stmt := top 21
abbrev sStart : Stmt := top 22
/-! ### the stream: a list at a of the script's rest (a list at b) and three numbers -/
structure StO (H : Hp) (a b : Addr) (n : Nat) : Prop where
  ex : ∃ (ns : List Int) (c1 c2 c3 : Int), H a = some (.lst [.ref b, .int c1, .int c2, .int c3]) ∧ H b = some (.lst (ns.map V.int)) ∧ 0 ≤ c1 ∧ 0 ≤ c2 ∧ c2 ≤ n ∧ 0 ≤ c3 ∧ c3 < 2147483647
/-- all that was tracked, but for the addresses of S, is as it was -/
def Kp (S : Addr → Prop) (H H' : Hp) : Prop := ∀ c o, H c = some o → ¬ S c → H' c = some o
theorem Kp.refl {S : Addr → Prop} (H : Hp) : Kp S H H := fun _ _ h _ => h
theorem Kp.trans {S : Addr → Prop} {H H1 H2 : Hp} (p : Kp S H H1) (q : Kp S H1 H2) : Kp S H H2 := fun c o h n => q c o (p c o h n) n
theorem Kp.of {S : Addr → Prop} {H H' : Hp} (e : Same H H') : Kp S H H' := fun c o h _ => e c o h
abbrev two (a b : Addr) : Addr → Prop := fun c => c = a ∨ c = b
theorem StO.kp {H H' : Hp} {a b : Addr} {n : Nat} (s : StO H a b n) (e : Same H H') : StO H' a b n := by
  obtain ⟨ns, c1, c2, c3, h1, h2, h⟩ := s.ex
  exact ⟨ns, c1, c2, c3, e _ _ h1, e _ _ h2, h⟩
theorem StO.le {H : Hp} {a b : Addr} {n m : Nat} (s : StO H a b n) (h : n ≤ m) : StO H a b m := by
  obtain ⟨ns, c1, c2, c3, h1, h2, h3, h4, h5, h6⟩ := s.ex
  exact ⟨ns, c1, c2, c3, h1, h2, h3, h4, by omega, h6⟩
/-- what is free behind was free ahead -/
theorem StO.free {H H' : Hp} {a b p : Addr} {m : Nat} (s : StO H' a b m) (k : Kp (two a b) H H') (h : H' p = none) : H p = none := by
  obtain ⟨ns, c1, c2, c3, h1, h2, _⟩ := s.ex
  cases e : H p with
  | none => rfl
  | some o =>
    by_cases ha : p = a
    · rw [ha, h1] at h; cases h
    · by_cases hb : p = b
      · rw [hb, h2] at h; cases h
      · rw [k p o e (fun z => z.elim ha hb)] at h; cases h
def spDraw : Sp := fun vs H Q _ => ∃ (a b : Addr) (m : Int) (n : Nat), vs = [.ref a, .int m] ∧ StO H a b n ∧ n ≤ 1000000 ∧ 0 < m ∧ m < 1000000 ∧
  ∀ (d : Int) (H' : Hp), 0 ≤ d → d < m → StO H' a b (n + 1) → Kp (two a b) H H' → Q (.int d) H'
/-- list(script), 0, 0, 0 -/
def spStart (K : PySem.W.Frag) : Sp := fun vs H Q _ => ∃ (p : Addr) (ns : List Int), vs = [.ref p] ∧ SqL K H p (ns.map V.int) ∧
  ∀ (a b : Addr) (H' : Hp), StO H' a b 0 → Same H H' → H a = none → H b = none → Q (.ref a) H'
structure TxA (mg : Str → Option Value) : Prop where
  z_int : mg "int" = none
  z_list : mg "list" = none
section
variable {P : Program} {w : World} {K : PySem.W.Frag} {mg : Str → Option Value} {base : Heap}
theorem scDraw : FnScope ["_law_stream", "_law_many", "_law_digit", "_law_mixed"] ["_law_stream", "_law_many"] (defScope sDraw) := ⟨rfl, rfl, rfl, by decide +kernel, rfl, by decide +kernel, by decide +kernel⟩
theorem dp_ints {H : Hp} : ∀ ns : List Int, DpAll K H (ns.map V.int) (ns.map PyData.int)
  | [] => .nil
  | n :: r => .cons (.int n) (dp_ints r)
theorem fmod_lt {i j : Int} (h : 0 < j) : 0 ≤ i.fmod j ∧ i.fmod j < j := by
  rw [Int.fmod_eq_emod_of_nonneg _ (Int.le_of_lt h)]
  exact ⟨Int.emod_nonneg _ (by omega), Int.emod_lt_of_pos _ h⟩
theorem fdiv_nn {i j : Int} (hi : 0 ≤ i) (h : 0 < j) : 0 ≤ i.fdiv j := by
  rw [Int.fdiv_eq_ediv_of_nonneg _ (Int.le_of_lt h)]
  exact Int.ediv_nonneg hi (Int.le_of_lt h)
theorem ok_draw {f : Addr} {fd : FuncData} (F : Fun K "_law_draw" "_law_draw" sDraw f fd) (T : TxA mg) : FnOk P w K mg base CX0 1 f fd ["_law_stream", "_law_many"] spDraw := by
  refine F.ok scDraw (fun vs H Q E h => ?_) (fun cdv A outer s H vs Q E hr h => ?_)
  · obtain ⟨a, b, m, n, rfl, _⟩ := h
    rfl
  · obtain ⟨a, b, m, n, rfl, hS, hn, hm, hm2, k⟩ := h
    obtain ⟨ns, c1, c2, c3, ha, hb, p1, p2, p2', p3, p3'⟩ := hS.ex
    have hab : a ≠ b := fun z => by
      rw [z, hb] at ha
      cases ns with
      | nil => cases ha
      | cons x r =>
        have := Option.some.inj ha
        injection this with this
        injection this with this _
        cases this
    refine ⟨_, (pss_cons (ps_asg (pe_op op_add (pe_ix ix_list (pv 0) pe_int (fun _ _ => rfl)) pe_int) (pg_sub (pv 0) pe_int set_list)) (C8.pss_cut (ps_if (PW.pt (pw_and (pt_cmpR op_eq (pe_ix ix_list (pv 0) pe_int (fun _ _ => rfl)) pe_int (nomark _)) (pw_and1 (pt_cmpR (op_neD hr.units) (pe_ix ix_list (pv 0) pe_int (fun _ _ => rfl)) (pe_lst pa_nil) (nomark _))))) (pss_cons (ps_asg (pe_bm PySem.F.plainAttrs_list PySem.F.slot_list_pop PySem.F.type_list_pop mt_popAt (pe_ix ix_list (pv 0) pe_int (fun _ _ => rfl)) (pa_cons pe_int pa_nil)) (pg_sub (pv 0) pe_int set_list)) (pss_one (ps_if (pt_cmpR op_lt (pe_ix ix_list (pv 0) pe_int (fun _ _ => rfl)) (pe_op op_pow pe_int pe_int) (nomark _)) (pss_cons (ps_asg (pe_op op_modN (pe_callTy call_int1 (by rfl) T.z_int (by decide +kernel) (pa_cons (pe_op op_add (pe_op op_add (pe_op op_mul (pe_ix ix_list (pv 0) pe_int (fun _ _ => rfl)) pe_int) (pe_ix ix_list (pv 0) pe_int (fun _ _ => rfl))) pe_int) pa_nil)) pe_int) (pg_sub (pv 0) pe_int set_list)) (pss_one (ps_asg pe_int (pg_sub (pv 0) pe_int set_list)))) pss_nil))) pss_nil) (pss_cons (ps_if (pt_cmpR op_gt (pe_ix ix_list (pv 0) pe_int (fun _ _ => rfl)) pe_int (nomark _)) (pss_cons (ps_set (i := 2) scDraw.nd rfl (Or.inl rfl) (pe_op op_modN (pe_callTy call_int1 (by rfl) T.z_int (by decide +kernel) (pa_cons (pe_ix ix_list (pv 0) pe_int (fun _ _ => rfl)) pa_nil)) (pv 1))) (pss_cons (ps_asg (pe_op op_fdivN (pe_ix ix_list (pv 0) pe_int (fun _ _ => rfl)) (pv 1)) (pg_sub (pv 0) pe_int set_list)) (pss_one (ps_ret (pv 2))))) pss_nil) (pss_cons (ps_set (i := 3) scDraw.nd rfl (Or.inl rfl) (pe_op op_modN (pe_op op_pow (pe_op op_add (pe_op op_add (pe_ix ix_list (pv 0) pe_int (fun _ _ => rfl)) (pe_op op_mul pe_int (pe_ix ix_list (pv 0) pe_int (fun _ _ => rfl)))) pe_int) pe_int) pe_int)) (pss_one (ps_ret (pe_op op_modN (pe_op op_modN (pe_op op_pow (pe_op op_add (pe_op op_add (pe_op op_mul (pv 3) pe_int) (pe_op op_mul (pe_op op_mul pe_int (pe_ix ix_list (pv 0) pe_int (fun _ _ => rfl))) (pe_ix ix_list (pv 0) pe_int (fun _ _ => rfl)))) pe_int) pe_int) pe_int) (pv 1)))))))), ?_⟩
    -- stream[2] = stream[2] + 1
    refine ⟨_, rfl, a, _, 2, _, rfl, rfl, SqL.of ha, rfl, _, _, rfl, rfl, _, rfl, a, _, 2, 2, rfl, rfl, ha, rfl, ?_⟩
    generalize e1 : upd H a _ = H1
    have h1a : H1 a = some (.lst [.ref b, .int c1, .int (c2 + 1), .int c3]) := by rw [← e1]; exact upd_same
    have h1b : H1 b = some (.lst (ns.map V.int)) := by rw [← e1, upd_ne (Ne.symm hab)]; exact hb
    have k1 : Kp (two a b) H H1 := fun c o h z => by rw [← e1, upd_ne (fun q => z (.inl q))]; exact h
    refine ⟨fun σ' H' => σ' = [some (.ref a), some (.int m), none, none] ∧ StO H' a b (n + 1) ∧ Kp (two a b) H H', ?_, ?_⟩
    · -- if stream[1] == 0 and stream[0] != []
      refine ⟨_, rfl, a, _, 1, _, rfl, rfl, SqL.of h1a, rfl, rfl, _, rfl, ?_⟩
      refine ite2 (fun hc => ?_) (fun hc => ?_)
      · have hc0 : c1 = 0 := by simpa using hc
        subst hc0
        refine ⟨_, rfl, a, _, 0, _, rfl, rfl, SqL.of h1a, rfl, (by show 0 ≤ sizeLine; decide), fun p hp => ?_⟩
        have k2 : ∀ {c o}, H1 c = some o → upd H1 p (.lst []) c = some o := fun {c o} z => by rw [upd_ne (ne_of_none z hp)]; exact z
        refine ⟨_, _, .lst (SqL.of (k2 h1b)) (dp_ints ns), .lst (SqL.of upd_same) .nil, PySem.W.ke_shaped_ints ns, (by decide), _, rfl, ?_⟩
        generalize e2 : upd H1 p (.lst []) = H2 at k2
        have h2a := k2 h1a
        have h2b := k2 h1b
        have k12 : Kp (two a b) H H2 := k1.trans (fun c o h _ => k2 h)
        cases ns with
        | nil =>
          refine iteF ?_
          exact ⟨rfl, ⟨[], 0, c2 + 1, c3, h2a, h2b, by omega, by omega, by omega, p3, p3'⟩, k12⟩
        | cons x r =>
          refine iteT ?_
          -- stream[1] = stream[0].pop(0)
          refine ⟨_, rfl, a, _, 0, _, rfl, rfl, SqL.of h2a, rfl, .inl ⟨rfl, _, SqL.of h2b⟩, b, _, 0, 0, _, rfl, rfl, h2b, by decide, by decide, (by rw [List.map_cons, List.length_cons]; simp [seqIndex?]; try omega), rfl, ?_⟩
          generalize e3 : upd H2 b _ = H3
          have h3a : H3 a = some (.lst [.ref b, .int 0, .int (c2 + 1), .int c3]) := by rw [← e3, upd_ne hab]; exact h2a
          have h3b : H3 b = some (.lst (r.map V.int)) := by rw [← e3]; exact upd_same
          refine ⟨_, rfl, a, _, 1, 1, rfl, rfl, h3a, rfl, ?_⟩
          generalize e4 : upd H3 a _ = H4
          have h4a : H4 a = some (.lst [.ref b, .int x, .int (c2 + 1), .int c3]) := by rw [← e4]; exact upd_same
          have h4b : H4 b = some (.lst (r.map V.int)) := by rw [← e4, upd_ne (Ne.symm hab)]; exact h3b
          have k14 : Kp (two a b) H H4 := k12.trans fun c o h z => by
            rw [← e4, upd_ne (fun q => z (.inl q)), ← e3, upd_ne (fun q => z (.inr q))]; exact h
          -- if stream[1] < 10 ** 18
          refine ⟨_, rfl, a, _, 1, _, rfl, rfl, SqL.of h4a, rfl, _, _, rfl, rfl, ⟨by decide, by decide, by decide⟩, _, _, rfl, rfl, _, rfl, ?_⟩
          refine ite2 (fun hc => ?_) (fun hc => ?_)
          · refine ⟨_, rfl, a, _, 3, _, rfl, rfl, SqL.of h4a, rfl, _, _, rfl, rfl, .inr ⟨by decide, by decide⟩, _, rfl, a, _, 1, _, rfl, rfl, SqL.of h4a, rfl, _, _, rfl, rfl, _, _, rfl, rfl,
              .inl ⟨_, rfl, _, _, rfl, rfl, (by show (2147483647 : Int) ≠ 0; decide), _, rfl, a, _, 3, 3, rfl, rfl, h4a, rfl, ?_⟩⟩
            generalize e5 : upd H4 a _ = H5
            have h5a : H5 a = some (.lst [.ref b, .int x, .int (c2 + 1), .int ((c3 * 31 + x + 7).fmod 2147483647)]) := by rw [← e5]; exact upd_same
            refine ⟨_, rfl, a, _, 1, 1, rfl, rfl, h5a, rfl, ?_⟩
            refine ⟨rfl, ⟨r, 0, c2 + 1, (c3 * 31 + x + 7).fmod 2147483647, upd_same, ?_, by omega, by omega, by omega, (fmod_lt (by decide)).1, (fmod_lt (by decide)).2⟩, k14.trans fun c o h z => ?_⟩
            · rw [upd_ne (Ne.symm hab), ← e5, upd_ne (Ne.symm hab)]; exact h4b
            · rw [upd_ne (fun q => z (.inl q)), ← e5, upd_ne (fun q => z (.inl q))]; exact h
          · have hx : ¬ x < 10 ^ 18 := by simpa using hc
            exact ⟨rfl, ⟨r, x, c2 + 1, c3, h4a, h4b, by omega, by omega, by omega, p3, p3'⟩, k14⟩
      · exact ⟨rfl, ⟨ns, c1, c2 + 1, c3, h1a, h1b, p1, by omega, by omega, p3, p3'⟩, k1⟩
    · rintro σ' H' ⟨rfl, S', kk⟩
      obtain ⟨ns', d1, d2, d3, ga, gb, q1, q2, q2', q3, q3'⟩ := S'.ex
      -- if stream[1] > 0
      refine ⟨_, rfl, a, _, 1, _, rfl, rfl, SqL.of ga, rfl, _, _, rfl, rfl, _, rfl, ?_⟩
      refine ite2 (fun hc => ?_) (fun hc => ?_)
      · have hd1 : 0 < d1 := by simpa using hc
        refine ⟨_, rfl, a, _, 1, _, rfl, rfl, SqL.of ga, rfl, .inl ⟨_, rfl, _, rfl, _, _, rfl, rfl, by omega, ?_⟩⟩
        refine ⟨_, rfl, a, _, 1, _, rfl, rfl, SqL.of ga, rfl, _, rfl, _, _, rfl, rfl, ⟨by omega, by omega⟩, _, rfl, a, _, 1, 1, rfl, rfl, ga, rfl, ?_⟩
        refine ⟨_, rfl, ?_⟩
        refine k (d1.fmod m) _ (fmod_lt hm).1 (fmod_lt hm).2 ⟨ns', d1.fdiv m, d2, d3, upd_same, ?_, fdiv_nn q1 hm, q2, q2', q3, q3'⟩ (kk.trans fun c o h z => ?_)
        · rw [upd_ne (Ne.symm hab)]; exact gb
        · rw [upd_ne (fun q => z (.inl q))]; exact h
      · -- the mixed draw
        have b2 : d2 ≤ 1000001 := by omega
        refine ⟨_, rfl, a, _, 3, _, rfl, rfl, SqL.of ga, rfl, _, rfl, a, _, 2, _, rfl, rfl, SqL.of ga, rfl, _, _, rfl, rfl, .inl ⟨by decide, by decide⟩, _, _, rfl, rfl, _, _, rfl, rfl, _, _, rfl, rfl, ⟨by decide, by decide, by omega⟩, _, _, rfl, rfl, (by show (2147483629 : Int) ≠ 0; decide), ?_⟩
        have w1 := fmod_lt (i := (d3 + 104729 * d2 + 17) ^ Int.toNat 5) (j := 2147483629) (by decide)
        generalize e1 : ((d3 + 104729 * d2 + 17) ^ Int.toNat 5).fmod 2147483629 = x1 at w1
        have m0 : 0 ≤ d2 * d2 := Int.mul_nonneg q2 q2
        have m1 : d2 * d2 ≤ 1000001 * 1000001 := Int.mul_le_mul b2 b2 q2 (by decide)
        have m2 : 40503 * d2 * d2 = 40503 * (d2 * d2) := Int.mul_assoc _ _ _
        generalize d2 * d2 = y at m0 m1 m2
        refine ⟨_, rfl, _, _, rfl, rfl, .inl ⟨by omega, by omega⟩, _, rfl, a, _, 2, _, rfl, rfl, SqL.of ga, rfl, _, _, rfl, rfl, .inl ⟨by decide, by decide⟩, _, rfl, a, _, 2, _, rfl, rfl, SqL.of ga, rfl, _, _, rfl, rfl, .inl ⟨by omega, by omega⟩, _, _, rfl, rfl, _, _, rfl, rfl,
          _, _, rfl, rfl, ⟨by decide, by decide, by rw [m2]; omega⟩, _, _, rfl, rfl, (by show (1000000007 : Int) ≠ 0; decide), _, rfl, _, _, rfl, rfl, (by omega), ?_⟩
        exact k _ _ (fmod_lt hm).1 (fmod_lt hm).2 S' kk
theorem scStart : FnScope ["_law_script"] ["_law_script"] (defScope sStart) := ⟨rfl, rfl, rfl, by decide +kernel, rfl, by decide +kernel, by decide +kernel⟩
theorem ok_start {f : Addr} {fd : FuncData} (F : Fun K "_law_start" "_law_start" sStart f fd) (T : TxA mg) : FnOk P w K mg base CX0 1 f fd ["_law_script"] (spStart K) := by
  refine F.ok scStart (fun vs H Q E h => ?_) (fun cdv A outer s H vs Q E hr h => ?_)
  · obtain ⟨p, ns, rfl, _⟩ := h
    rfl
  · obtain ⟨p, ns, rfl, hp, k⟩ := h
    refine ⟨_, (pss_one (ps_ret (pe_lst (pa_cons (pe_callTy call_list_of (by rfl) T.z_list (by decide +kernel) (pa_cons (pv 0) pa_nil)) (pa_cons pe_int (pa_cons pe_int (pa_cons pe_int pa_nil))))))), ?_⟩
    refine ⟨_, rfl, p, _, rfl, .inl hp, fun b nb => ?_⟩
    refine ⟨by show 4 ≤ sizeLine; decide, fun a na => ?_⟩
    have hab : a ≠ b := fun z => by rw [z, upd_same] at na; cases na
    have na' : H a = none := by rw [upd_ne hab] at na; exact na
    exact k a b _ ⟨ns, 0, 0, 0, upd_same, by rw [upd_ne (Ne.symm hab)]; exact upd_same, by decide, by decide, by decide, by decide, by decide⟩
      (fun c o h => by rw [upd_ne (ne_of_none h na'), upd_ne (ne_of_none h nb)]; exact h) na' nb
end
end L2.E2

namespace L2.E2
open PySem PySem.Spec PyProof.Rows L2.Vx
abbrev sIsW : Stmt := top 8
abbrev sIsL : Stmt := top 9
abbrev sLIsW : Stmt := top 19
abbrev nIsW : List Str := ["thing", "letter"]
abbrev nLIsW : List Str := ["_law_thing", "_law_sign"]
/-! ### what is passed: leaves, lists, tuples, the empty dict -/
inductive D where
  | leaf (v : V)
  | seq (b : Bool) (xs : List D)
  | dct
def leafy : V → Bool
  | .non => true
  | .bl _ => true
  | .int _ => true
  | .str x => decide (x.length ≤ 1000)
  | _ => false
/-- a list (b), or a tuple -/
abbrev mkS (b : Bool) (us : List V) : HO := cond b (.lst us) (.tup us)
def Rep (H : Hp) : Nat → (Addr → Prop) → V → D → Prop
  | 0 => fun _ _ _ => False
  | n + 1 => fun S v d => match d with
    | .leaf x => v = x ∧ leafy x = true
    | .seq b ds => ∃ a us, v = .ref a ∧ ¬ S a ∧ H a = some (mkS b us) ∧ us.length ≤ 60 ∧ Paired (Rep H n S) us ds
    | .dct => ∃ a, v = .ref a ∧ ¬ S a ∧ H a = some (.dK [])
theorem Rep.kp {H H' : Hp} : ∀ {n : Nat} {S : Addr → Prop} {v : V} {d : D}, Kp S H H' → Rep H n S v d → Rep H' n S v d
  | 0, _, _, _, _, h => h
  | n + 1, S, v, .leaf x, _, h => h
  | n + 1, S, v, .seq b ds, k, ⟨a, us, e, ns, ha, hl, hp⟩ => ⟨a, us, e, ns, k _ _ ha ns, hl, L2.Paired.mapP hp fun _ _ z => Rep.kp k z⟩
  | n + 1, S, v, .dct, k, ⟨a, e, ns, ha⟩ => ⟨a, e, ns, k _ _ ha ns⟩
theorem Rep.sub {H : Hp} : ∀ {n : Nat} {S S' : Addr → Prop} {v : V} {d : D}, (∀ c, S' c → S c) → Rep H n S v d → Rep H n S' v d
  | 0, _, _, _, _, _, h => h
  | n + 1, S, S', v, .leaf x, _, h => h
  | n + 1, S, S', v, .seq b ds, k, ⟨a, us, e, ns, ha, hl, hp⟩ => ⟨a, us, e, fun z => ns (k _ z), ha, hl, L2.Paired.mapP hp fun _ _ z => Rep.sub k z⟩
  | n + 1, S, S', v, .dct, k, ⟨a, e, ns, ha⟩ => ⟨a, e, fun z => ns (k _ z), ha⟩
theorem Rep.up {H : Hp} : ∀ {n : Nat} {S : Addr → Prop} {v : V} {d : D}, Rep H n S v d → Rep H (n + 1) S v d
  | 0, _, _, _, h => h.elim
  | n + 1, S, v, .leaf x, h => h
  | n + 1, S, v, .seq b ds, ⟨a, us, e, ns, ha, hl, hp⟩ => ⟨a, us, e, ns, ha, hl, L2.Paired.mapP hp fun _ _ z => Rep.up z⟩
  | n + 1, S, v, .dct, h => h
theorem Rep.add {H : Hp} {p : Addr} (hn : H p = none) : ∀ {n : Nat} {S : Addr → Prop} {v : V} {d : D}, Rep H n S v d → Rep H n (fun c => S c ∨ c = p) v d
  | 0, _, _, _, h => h
  | n + 1, S, v, .leaf x, h => h
  | n + 1, S, v, .seq b ds, ⟨a, us, e, ns, ha, hl, hp⟩ => ⟨a, us, e, fun z => Or.elim z ns (ne_of_none ha hn), ha, hl, L2.Paired.mapP hp fun _ _ z => Rep.add hn z⟩
  | n + 1, S, v, .dct, ⟨a, e, ns, ha⟩ => ⟨a, e, fun z => Or.elim z ns (ne_of_none ha hn), ha⟩
theorem same_new {H : Hp} {p : Addr} {o : HO} (h : H p = none) : Same H (upd H p o) := fun c u z => by
  rw [upd_ne (ne_of_none z h)]; exact z
theorem take_more1 {α : Type} : ∀ {l : List α} {i : Nat} {x : α}, l[i]? = some x → l.take (i + 1) = l.take i ++ [x]
  | [], i, x, h => by simp at h
  | a :: l, 0, x, h => by
    have e : a = x := Option.some.inj h
    rw [e]; rfl
  | a :: l, i + 1, x, h => by
    have ih := take_more1 (l := l) (i := i) (x := x) h
    rw [List.take_succ_cons, ih]; rfl
/-! ### words -/
abbrev lets : List Nat := ("abcdefghijklmnopqrstuvwxyz" : Str).cps.toList
def isWordS (x : Str) : Bool := decide (1 ≤ x.length ∧ x.length ≤ 8) && x.cps.toList.all fun c => decide (c ∈ lets)
def isWord : D → Bool
  | .leaf (.str x) => isWordS x
  | _ => false
def spIsW : Sp := fun vs H Q _ => ∃ (v : V) (d : D) (S : Addr → Prop) (n : Nat), vs = [v] ∧ Rep H n S v d ∧ ∀ H', Same H H' → Q (.bl (isWord d)) H'
def tyN : V → String
  | .non => "NoneType"
  | .bl _ => "bool"
  | .int _ => "int"
  | _ => "str"
section
variable {K : PySem.W.Frag}
theorem notStr {H : Hp} {n : Nat} {S : Addr → Prop} {v : V} {d : D} (hs : ¬ ∃ x, d = .leaf (.str x)) (r : Rep H n S v d) : ∃ t, TyX K H v t ∧ PySem.W.kitOne K t (.type "str") = some false := by
  have k1 : kitB "NoneType" "str" = some false := by decide +kernel
  have k2 : kitB "bool" "str" = some false := by decide +kernel
  have k3 : kitB "int" "str" = some false := by decide +kernel
  have k4 : kitB "list" "str" = some false := by decide +kernel
  have k5 : kitB "tuple" "str" = some false := by decide +kernel
  have k6 : kitB "dict" "str" = some false := by decide +kernel
  cases n with
  | zero => exact r.elim
  | succ n =>
    cases d with
    | leaf x =>
      obtain ⟨rfl, lf⟩ := r
      cases v with
      | non => exact ⟨_, .base .non, kit_ty k1⟩
      | bl b => exact ⟨_, .base (.bl b), kit_ty k2⟩
      | int i => exact ⟨_, .base (.int i), kit_ty k3⟩
      | str y => exact absurd ⟨_, rfl⟩ hs
      | byt y => cases lf
      | flt y => cases lf
      | ref y => cases lf
      | ty y => cases lf
    | seq b ds =>
      obtain ⟨a, us, rfl, _, ha, _⟩ := r
      cases b
      · exact ⟨_, .base (.tup ha), kit_ty k5⟩
      · exact ⟨_, .base (.lst ha), kit_ty k4⟩
    | dct =>
      obtain ⟨a, rfl, _, ha⟩ := r
      exact ⟨_, .base (.dK ha), kit_ty k6⟩
end
structure TxW (mg : Str → Option Value) : Prop where
  z_isinstance : mg "isinstance" = none
  z_str : mg "str" = none
  z_len : mg "len" = none
  z_all : mg "all" = none
  z_list : mg "list" = none
  z_tuple : mg "tuple" = none
  z_set : mg "set" = none
  g_LETTERS : ∃ t, mg "LETTERS" = some (.str "abcdefghijklmnopqrstuvwxyz" t)
  g_MOST_LETTERS : ∃ t, mg "MOST_LETTERS" = some (.int 8 t)
section
variable {P : Program} {w : World} {K : PySem.W.Frag} {mg : Str → Option Value} {base : Heap}
theorem scIsW : FnScope nIsW ["thing"] (defScope sIsW) := ⟨rfl, rfl, rfl, by decide +kernel, rfl, by decide +kernel, by decide +kernel⟩
theorem scLIsW : FnScope nLIsW ["_law_thing"] (defScope sLIsW) := ⟨rfl, rfl, rfl, by decide +kernel, rfl, by decide +kernel, by decide +kernel⟩
theorem pt_no {X : Cx} {e : Expr} : PT X e (fun _ _ _ => False) := ⟨fun _ _ _ _ _ _ h => h.elim⟩

theorem ok_isW {f : Addr} {fd : FuncData} (F : Fun K "is_word" "is_word" sIsW f fd) (T : TxW mg) : FnOk P w K mg base CX0 1 f fd ["thing"] spIsW := by
  refine F.ok scIsW (fun vs H Q E h => ?_) (fun cdv A outer s H vs Q E hr h => ?_)
  · obtain ⟨v, d, S, n, rfl, _⟩ := h
    rfl
  · obtain ⟨v, d, S, n, rfl, r, k⟩ := h
    by_cases hs : ∃ x, d = .leaf (.str x)
    · obtain ⟨x, rfl⟩ := hs
      cases n with
      | zero => exact r.elim
      | succ n =>
        obtain ⟨rfl, lf⟩ := r
        have hx : x.length ≤ 1000 := of_decide_eq_true lf
        have hx2 : x.length ≤ sizeLine := by rw [sizeLine_eq]; omega
        refine ⟨_, (pss_cons (ps_if (PW.pt (pw_or (pt_not (pt_val (pe_callB call_isi (by rfl) T.z_isinstance (by decide +kernel) (pa_cons (pv 0) (pa_cons (pe_bltn (v := .ty "str") (by rfl) T.z_str (by decide +kernel) rfl) pa_nil))))) (pw_or1 (pt_not (pt_chain op_le op_le pe_int (pe_callB call_len (by rfl) T.z_len (by decide +kernel) (pa_cons (pv 0) pa_nil)) (pe_glob (v := .int 8) rfl T.g_MOST_LETTERS.choose_spec ⟨_, rfl⟩)))))) (pss_one (ps_ret pe_bl)) pss_nil) (pss_one (ps_ret (pe_callB (cr_all rfl) (by rfl) T.z_all (by decide +kernel) (pa_cons (pe_lc (own := [("letter", 1)]) (g := gName 1) (tt := tYes) rfl scIsW.nd (pi_str (pv 0)) (blkOk_by (N := nIsW) (sc := defScope sIsW) (by decide +kernel)) (fun _ _ _ _ _ => pg_name (i := 1) scIsW.nd rfl (Or.inl rfl)) (fun _ _ _ _ _ => pts_nil) (fun _ _ _ _ _ => (pe_cmpR op_in_sign (pv 1) (pe_glob (v := .str "abcdefghijklmnopqrstuvwxyz") rfl T.g_LETTERS.choose_spec ⟨_, rfl⟩) rfl))) pa_nil))))), ?_⟩
        refine ⟨_, rfl, .str x, .ty "str", .type "str", _, true, rfl, .ty _, .base (.str x), kit_ty (by decide +kernel), _, rfl, ?_⟩
        refine iteF ?_
        refine ⟨_, rfl, .str x, x.length, rfl, ⟨hx2, rfl⟩, _, _, rfl, rfl, _, rfl, ?_⟩
        by_cases h1 : (1 : Int) ≤ (x.length : Int)
        · rw [decide_eq_true h1]
          refine iteT ?_
          refine ⟨_, _, rfl, rfl, _, rfl, ?_⟩
          by_cases h2 : (x.length : Int) ≤ 8
          · rw [decide_eq_true h2]
            refine iteF ?_
            have h12 : 1 ≤ x.length ∧ x.length ≤ 8 := by omega
            refine ⟨_, rfl, x, rfl, fun D nD => lc_it walk_str (fun i H3 => H3 D = some (.lst (((x.cps.toList.take i).map fun c => decide (c ∈ lets)).map V.bl)) ∧ Same H H3) ?_ (fun _ _ _ _ => trivial) ?_ ?_⟩
            · exact ⟨upd_same, same_new nD⟩
            · rintro i y H3 H3' hi ⟨hD, e3⟩ ⟨rfl, c, hc, rfl⟩
              refine ⟨rfl, ?_⟩
              unfold tYes
              refine iteT ?_
              refine ⟨_, rfl, c, _, rfl, rfl, _, hD, ?_, ?_, fun c' o z => ?_⟩
              · rw [List.length_map, List.length_map, List.length_take]
                have : x.cps.toList.length = x.length := rfl
                exact Nat.lt_of_le_of_lt (by omega : _ ≤ 1000) (by decide)
              · have hc2 : x.cps.toList[i]? = some c := by rw [Array.getElem?_toList]; exact hc
                rw [upd_same, take_more1 hc2, List.map_append, List.map_append]
                rfl
              · rw [upd_ne (ne_of_none z nD)]
                exact e3 _ _ z
            · rintro H3 ⟨hD, e3⟩
              rw [show x.cps.size = x.cps.toList.length from rfl, List.take_length] at hD
              refine ⟨D, _, rfl, SqL.of hD, ?_⟩
              have e : (x.cps.toList.map fun c => decide (c ∈ lets)).all id = isWord (.leaf (.str x)) := by
                rw [List.all_map]
                show _ = isWordS x
                unfold isWordS
                rw [decide_eq_true h12]
                rfl
              rw [e]
              exact k H3 e3
          · rw [decide_eq_false h2]
            refine iteT ?_
            have e : isWord (.leaf (.str x)) = false := by
              show isWordS x = false
              unfold isWordS
              rw [decide_eq_false (show ¬ (1 ≤ x.length ∧ x.length ≤ 8) by omega)]
              rfl
            rw [e] at k
            exact k H (Same.refl H)
        · rw [decide_eq_false h1]
          refine iteF ?_
          refine ⟨_, rfl, ?_⟩
          refine iteT ?_
          have e : isWord (.leaf (.str x)) = false := by
            show isWordS x = false
            unfold isWordS
            rw [decide_eq_false (show ¬ (1 ≤ x.length ∧ x.length ≤ 8) by omega)]
            rfl
          rw [e] at k
          exact k H (Same.refl H)
    · refine ⟨_, (pss_cons (ps_if (PW.pt (pw_or (pt_not (pt_val (pe_callB call_isi (by rfl) T.z_isinstance (by decide +kernel) (pa_cons (pv 0) (pa_cons (pe_bltn (v := .ty "str") (by rfl) T.z_str (by decide +kernel) rfl) pa_nil))))) (pw_or1 pt_no))) (pss_one (ps_ret pe_bl)) pss_nil) pss_never), ?_⟩
      have hw : isWord d = false := by
        cases d with
        | leaf v => cases v <;> first | rfl | exact absurd ⟨_, rfl⟩ hs
        | _ => rfl
      have hk := notStr (K := K) hs r
      obtain ⟨t, ty, kt⟩ := hk
      refine ⟨_, rfl, v, .ty "str", t, _, false, rfl, .ty _, ty, kt, _, rfl, ?_⟩
      refine iteT ?_
      refine iteT ?_
      rw [hw] at k
      exact k H (Same.refl H)

theorem ok_lIsW {f : Addr} {fd : FuncData} (F : Fun K "_law_is_word" "_law_is_word" sLIsW f fd) (T : TxW mg) : FnOk P w K mg base CX0 1 f fd ["_law_thing"] spIsW := by
  refine F.ok scLIsW (fun vs H Q E h => ?_) (fun cdv A outer s H vs Q E hr h => ?_)
  · obtain ⟨v, d, S, n, rfl, _⟩ := h
    rfl
  · obtain ⟨v, d, S, n, rfl, r, k⟩ := h
    by_cases hs : ∃ x, d = .leaf (.str x)
    · obtain ⟨x, rfl⟩ := hs
      cases n with
      | zero => exact r.elim
      | succ n =>
        obtain ⟨rfl, lf⟩ := r
        have hx : x.length ≤ 1000 := of_decide_eq_true lf
        have hx2 : x.length ≤ sizeLine := by rw [sizeLine_eq]; omega
        refine ⟨_, (pss_cons (ps_if (PW.pt (pw_or (pt_not (pt_val (pe_callB call_isi (by rfl) T.z_isinstance (by decide +kernel) (pa_cons (pv 0) (pa_cons (pe_bltn (v := .ty "str") (by rfl) T.z_str (by decide +kernel) rfl) pa_nil))))) (pw_or (pt_cmpR op_lt (pe_callB call_len (by rfl) T.z_len (by decide +kernel) (pa_cons (pv 0) pa_nil)) pe_int (nomark _)) (pw_or1 (pt_cmpR op_gt (pe_callB call_len (by rfl) T.z_len (by decide +kernel) (pa_cons (pv 0) pa_nil)) pe_int (nomark _)))))) (pss_one (ps_ret pe_bl)) pss_nil) (pss_one (ps_ret (pe_callB (cr_all rfl) (by rfl) T.z_all (by decide +kernel) (pa_cons (pe_lc (own := [("_law_sign", 1)]) (g := gName 1) (tt := tYes) rfl scLIsW.nd (pi_str (pv 0)) (blkOk_by (N := nLIsW) (sc := defScope sLIsW) (by decide +kernel)) (fun _ _ _ _ _ => pg_name (i := 1) scLIsW.nd rfl (Or.inl rfl)) (fun _ _ _ _ _ => pts_nil) (fun _ _ _ _ _ => (pe_cmpR op_in_sign (pv 1) pe_str rfl))) pa_nil))))), ?_⟩
        refine ⟨_, rfl, .str x, .ty "str", .type "str", _, true, rfl, .ty _, .base (.str x), kit_ty (by decide +kernel), _, rfl, ?_⟩
        refine iteF ?_
        refine ⟨_, rfl, .str x, x.length, rfl, ⟨hx2, rfl⟩, _, _, rfl, rfl, _, rfl, ?_⟩
        by_cases h1 : (x.length : Int) < 1
        · rw [decide_eq_true h1]
          refine iteT ?_
          refine iteT ?_
          have e : isWord (.leaf (.str x)) = false := by
            show isWordS x = false
            unfold isWordS
            rw [decide_eq_false (show ¬ (1 ≤ x.length ∧ x.length ≤ 8) by omega)]
            rfl
          rw [e] at k
          exact k H (Same.refl H)
        · rw [decide_eq_false h1]
          refine iteF ?_
          refine ⟨_, rfl, .str x, x.length, rfl, ⟨hx2, rfl⟩, _, _, rfl, rfl, _, rfl, ?_⟩
          by_cases h2 : 8 < (x.length : Int)
          · rw [decide_eq_true h2]
            refine iteT ?_
            have e : isWord (.leaf (.str x)) = false := by
              show isWordS x = false
              unfold isWordS
              rw [decide_eq_false (show ¬ (1 ≤ x.length ∧ x.length ≤ 8) by omega)]
              rfl
            rw [e] at k
            exact k H (Same.refl H)
          · rw [decide_eq_false h2]
            refine iteF ?_
            have h12 : 1 ≤ x.length ∧ x.length ≤ 8 := by omega
            refine ⟨_, rfl, x, rfl, fun D nD => lc_it walk_str (fun i H3 => H3 D = some (.lst (((x.cps.toList.take i).map fun c => decide (c ∈ lets)).map V.bl)) ∧ Same H H3) ?_ (fun _ _ _ _ => trivial) ?_ ?_⟩
            · exact ⟨upd_same, same_new nD⟩
            · rintro i y H3 H3' hi ⟨hD, e3⟩ ⟨rfl, c, hc, rfl⟩
              refine ⟨rfl, ?_⟩
              unfold tYes
              refine iteT ?_
              refine ⟨_, rfl, c, _, rfl, rfl, _, hD, ?_, ?_, fun c' o z => ?_⟩
              · rw [List.length_map, List.length_map, List.length_take]
                have : x.cps.toList.length = x.length := rfl
                exact Nat.lt_of_le_of_lt (by omega : _ ≤ 1000) (by decide)
              · have hc2 : x.cps.toList[i]? = some c := by rw [Array.getElem?_toList]; exact hc
                rw [upd_same, take_more1 hc2, List.map_append, List.map_append]
                rfl
              · rw [upd_ne (ne_of_none z nD)]
                exact e3 _ _ z
            · rintro H3 ⟨hD, e3⟩
              rw [show x.cps.size = x.cps.toList.length from rfl, List.take_length] at hD
              refine ⟨D, _, rfl, SqL.of hD, ?_⟩
              have e : (x.cps.toList.map fun c => decide (c ∈ lets)).all id = isWord (.leaf (.str x)) := by
                rw [List.all_map]
                show _ = isWordS x
                unfold isWordS
                rw [decide_eq_true h12]
                rfl
              rw [e]
              exact k H3 e3
    · refine ⟨_, (pss_cons (ps_if (PW.pt (pw_or (pt_not (pt_val (pe_callB call_isi (by rfl) T.z_isinstance (by decide +kernel) (pa_cons (pv 0) (pa_cons (pe_bltn (v := .ty "str") (by rfl) T.z_str (by decide +kernel) rfl) pa_nil))))) (pw_or pt_no (pw_or1 pt_no)))) (pss_one (ps_ret pe_bl)) pss_nil) pss_never), ?_⟩
      have hw : isWord d = false := by
        cases d with
        | leaf v => cases v <;> first | rfl | exact absurd ⟨_, rfl⟩ hs
        | _ => rfl
      have hk := notStr (K := K) hs r
      obtain ⟨t, ty, kt⟩ := hk
      refine ⟨_, rfl, v, .ty "str", t, _, false, rfl, .ty _, ty, kt, _, rfl, ?_⟩
      refine iteT ?_
      refine iteT ?_
      rw [hw] at k
      exact k H (Same.refl H)
end
end L2.E2

namespace L2.E2
open PySem PySem.Spec PyProof.Rows L2.Vx
abbrev sIsN : Stmt := top 14
abbrev sAre : Stmt := top 15
abbrev sTold : Stmt := top 16
abbrev nAre : List Str := ["thing", "value"]
/-! ### either way -/
section
variable {X : Cx} {tg l e : Expr} {w1 w2 : TI} {t1 t2 : TE} {es : List Expr}
theorem PI.or (h1 : PI X tg l w1) (h2 : PI X tg l w2) : PI X tg l (fun σ H R => w1 σ H R ∨ w2 σ H R) := ⟨fun pins s σ H R I h => h.elim (h1.run pins s σ H R I) (h2.run pins s σ H R I)⟩
theorem pe_no : PE X e (fun _ _ _ => False) := ⟨fun _ _ _ _ _ _ h => h.elim⟩
end
theorem Paired.get {α β : Type} {R : α → β → Prop} : ∀ {xs : List α} {ys : List β} {i : Nat} {x : α}, Paired R xs ys → xs[i]? = some x → ∃ y, ys[i]? = some y ∧ R x y
  | _, _, _, _, .nil, e => by simp at e
  | _, _, 0, _, .cons r _, e => by
    simp at e
    subst e
    exact ⟨_, rfl, r⟩
  | _, _, i + 1, x, .cons _ t, e => by
    obtain ⟨y, h1, h2⟩ := Paired.get (i := i) (x := x) t (by simpa using e)
    exact ⟨y, by simpa using h1, h2⟩
def SqV (K : PySem.W.Frag) (b : Bool) (H : Hp) (a : Addr) (us : List V) : Prop := H a = some (mkS b us)
theorem SqV.sq {K : PySem.W.Frag} {b : Bool} {H : Hp} {a : Addr} {us : List V} (h : H a = some (mkS b us)) : SqL K H a us ∨ SqT K H a us := by
  cases b
  · exact .inr (SqT.of h)
  · exact .inl (SqL.of h)
theorem seq_ty {K : PySem.W.Frag} {b : Bool} {H : Hp} {a : Addr} {us : List V} (h : H a = some (mkS b us)) : ∃ t : String, TyX K H (.ref a) (.type t) ∧ PySem.W.kitAny K (.type t) [.type "list", .type "tuple"] = some true ∧ (t = "list" ∨ t = "tuple") := by
  cases b
  · refine ⟨"tuple", .base (.tup h), ?_, .inr rfl⟩
    unfold PySem.W.kitAny
    rw [kit_ty (a := "tuple") (b := "list") (r := false) (by decide +kernel)]
    show PySem.W.kitAny K (.type "tuple") [.type "tuple"] = _
    unfold PySem.W.kitAny
    rw [kit_ty (a := "tuple") (b := "tuple") (r := true) (by decide +kernel)]
  · refine ⟨"list", .base (.lst h), ?_, .inl rfl⟩
    unfold PySem.W.kitAny
    rw [kit_ty (a := "list") (b := "list") (r := true) (by decide +kernel)]
theorem ix_go {K : PySem.W.Frag} {H : Hp} {a : Addr} {us : List V} {i : Nat} {v : V} {Q : VK} (sq : SqL K H a us ∨ SqT K H a us) (hv : us[i]? = some v) (q : Q v H) : rIx K (.ref a) (.int (i : Int)) H Q := by
  rcases sq with h | h
  · exact .inl ⟨a, us, _, v, rfl, rfl, h, atI_nat hv, q⟩
  · exact .inr (.inl ⟨a, us, _, v, rfl, rfl, h, atI_nat hv, q⟩)
/-- a walk over either -/
theorem seq_it {K : PySem.W.Frag} {b : Bool} {a : Addr} {us : List V} : ∃ J : It, Walk J us.length (fun H => H a = some (mkS b us)) (YAt us) ∧ ∀ (te : TE) (σ : St) (H : Hp) (R : It → Hp → Prop), te σ H (fun v H1 => v = .ref a ∧ H1 a = some (mkS b us) ∧ R J H1) → (∀ σ H Q Q', (∀ v H1, Q v H1 → Q' v H1) → te σ H Q → te σ H Q') → (iList K te σ H R ∨ iTup K te σ H R) := by
  cases b
  · exact ⟨Itt K a, (walk_tup (K := K)).mono (fun H h => SqT.of h) fun _ _ _ _ _ _ y => y, fun te σ H R h m => .inr (m _ _ _ _ (fun v H1 z => ⟨a, z.1, ⟨us, SqT.of z.2.1⟩, z.2.2⟩) h)⟩
  · exact ⟨Itl K a, (walk_list (K := K)).mono (fun H h => SqL.of h) fun _ _ _ _ _ _ y => y, fun te σ H R h m => .inl (m _ _ _ _ (fun v H1 z => ⟨a, z.1, ⟨us, SqL.of z.2.1⟩, z.2.2⟩) h)⟩
theorem mono_var {i : Nat} : ∀ (σ : St) (H : Hp) (Q Q' : VK), (∀ v H1, Q v H1 → Q' v H1) → tVar i σ H Q → tVar i σ H Q' := fun σ H Q Q' k ⟨v, h, q⟩ => ⟨v, h, k _ _ q⟩
theorem notSeq {K : PySem.W.Frag} {H : Hp} {n : Nat} {S : Addr → Prop} {v : V} {d : D} (hs : ¬ ∃ b ds, d = .seq b ds) (r : Rep H n S v d) : ∃ t : String, (∀ H', Same H H' → TyX K H' v (.type t)) ∧ PySem.W.kitAny K (.type t) [.type "list", .type "tuple"] = some false := by
  have kk : ∀ t : String, kitB t "list" = some false → kitB t "tuple" = some false → PySem.W.kitAny K (.type t) [.type "list", .type "tuple"] = some false := fun t h1 h2 => by
    unfold PySem.W.kitAny
    rw [kit_ty h1]
    show PySem.W.kitAny K (.type t) [.type "tuple"] = _
    unfold PySem.W.kitAny
    rw [kit_ty h2]
    rfl
  cases n with
  | zero => exact r.elim
  | succ n =>
    cases d with
    | leaf x =>
      obtain ⟨rfl, lf⟩ := r
      cases v with
      | non => exact ⟨_, fun _ _ => .base .non, kk _ (by decide +kernel) (by decide +kernel)⟩
      | bl b => exact ⟨_, fun _ _ => .base (.bl b), kk _ (by decide +kernel) (by decide +kernel)⟩
      | int i => exact ⟨_, fun _ _ => .base (.int i), kk _ (by decide +kernel) (by decide +kernel)⟩
      | str y => exact ⟨_, fun _ _ => .base (.str y), kk _ (by decide +kernel) (by decide +kernel)⟩
      | byt y => cases lf
      | flt y => cases lf
      | ref y => cases lf
      | ty y => cases lf
    | seq b ds => exact absurd ⟨_, _, rfl⟩ hs
    | dct =>
      obtain ⟨a, rfl, _, ha⟩ := r
      exact ⟨_, fun H' e => .base (.dK (e _ _ ha)), kk _ (by decide +kernel) (by decide +kernel)⟩
/-! ### what each tells -/
def isList : D → Bool
  | .seq _ _ => true
  | _ => false
def strOf : D → Str
  | .leaf (.str x) => x
  | _ => Str.empty
def isName (d : D) : Bool := isWord d && !decide (strOf d = "number")
def areValues : D → Bool
  | .seq _ ds => decide (1 ≤ ds.length ∧ ds.length ≤ 3) && (ds.all isWord && decide (ds.map strOf).Nodup)
  | _ => false
def isTold : D → Bool
  | .seq _ [x, y] => isName x && areValues y
  | _ => false
theorem word_str {d : D} (h : isWord d = true) : d = .leaf (.str (strOf d)) := by
  cases d with
  | leaf v => cases v <;> first | rfl | cases h
  | _ => cases h
theorem words_strs {H : Hp} {n : Nat} {S : Addr → Prop} : ∀ {us : List V} {ds : List D}, Paired (Rep H n S) us ds → ds.all isWord = true → us = (ds.map strOf).map V.str
  | _, _, .nil, _ => rfl
  | u :: us, d :: ds, .cons r t, h => by
    rw [List.all_cons, Bool.and_eq_true] at h
    have e := words_strs t h.2
    have ed := word_str h.1
    cases n with
    | zero => exact r.elim
    | succ n =>
      rw [ed] at r
      obtain ⟨rfl, _⟩ := r
      rw [List.map_cons, List.map_cons, ← e]
def spD (p : D → Bool) : Sp := fun vs H Q _ => ∃ (v : V) (d : D) (S : Addr → Prop) (n : Nat), vs = [v] ∧ Rep H n S v d ∧ ∀ H', Same H H' → Q (.bl (p d)) H'
structure TxN (K : PySem.W.Frag) (mg : Str → Option Value) (fisW fisL fisN fare : Addr) : Prop where
  m_isW : mg "is_word" = some (.ref fisW)
  k_isW : PySem.W.keepIn K (.ref fisW) = true
  m_isL : mg "is_list" = some (.ref fisL)
  k_isL : PySem.W.keepIn K (.ref fisL) = true
  m_isN : mg "_is_name" = some (.ref fisN)
  k_isN : PySem.W.keepIn K (.ref fisN) = true
  m_are : mg "_are_values" = some (.ref fare)
  k_are : PySem.W.keepIn K (.ref fare) = true
  g_MV : ∃ t, mg "MOST_VALUES" = some (.int 3 t)
section
variable {P : Program} {w : World} {K : PySem.W.Frag} {mg : Str → Option Value} {base : Heap}
theorem scIsL : FnScope ["thing"] ["thing"] (defScope sIsL) := ⟨rfl, rfl, rfl, by decide +kernel, rfl, by decide +kernel, by decide +kernel⟩
theorem scIsN : FnScope ["thing"] ["thing"] (defScope sIsN) := ⟨rfl, rfl, rfl, by decide +kernel, rfl, by decide +kernel, by decide +kernel⟩
theorem scAre : FnScope nAre ["thing"] (defScope sAre) := ⟨rfl, rfl, rfl, by decide +kernel, rfl, by decide +kernel, by decide +kernel⟩
theorem scTold : FnScope ["thing"] ["thing"] (defScope sTold) := ⟨rfl, rfl, rfl, by decide +kernel, rfl, by decide +kernel, by decide +kernel⟩
theorem ok_isL {f : Addr} {fd : FuncData} (F : Fun K "is_list" "is_list" sIsL f fd) (T : TxW mg) : FnOk P w K mg base CX0 1 f fd ["thing"] (spD isList) := by
  refine F.ok scIsL (fun vs H Q E h => ?_) (fun cdv A outer s H vs Q E hr h => ?_)
  · obtain ⟨v, d, S, n, rfl, _⟩ := h
    rfl
  · obtain ⟨v, d, S, n, rfl, r, k⟩ := h
    refine ⟨_, (pss_one (ps_ret (pe_callB call_isiT (by rfl) T.z_isinstance (by decide +kernel) (pa_cons (pv 0) (pa_cons (pe_tup (pa_cons (pe_bltn (v := .ty "list") (by rfl) T.z_list (by decide +kernel) rfl) (pa_cons (pe_bltn (v := .ty "tuple") (by rfl) T.z_tuple (by decide +kernel) rfl) pa_nil))) pa_nil))))), ?_⟩
    refine ⟨_, rfl, (by show 2 ≤ sizeLine; decide), fun p np => ?_⟩
    have e1 := same_new (o := .tup [.ty "list", .ty "tuple"]) np
    by_cases hs : ∃ b ds, d = .seq b ds
    · obtain ⟨b, ds, rfl⟩ := hs
      cases n with
      | zero => exact r.elim
      | succ n =>
        obtain ⟨a, us, rfl, _, ha, _⟩ := r
        obtain ⟨t, ty, kt, _⟩ := seq_ty (K := K) (e1 _ _ ha)
        exact ⟨_, p, [.ty "list", .ty "tuple"], _, _, true, rfl, upd_same, .cons (.ty _) (.cons (.ty _) .nil), ty, kt, k _ e1⟩
    · obtain ⟨t, ty, kt⟩ := notSeq (K := K) hs r
      have e : isList d = false := by
        cases d with
        | seq b ds => exact absurd ⟨_, _, rfl⟩ hs
        | _ => rfl
      rw [e] at k
      exact ⟨_, p, [.ty "list", .ty "tuple"], _, _, false, rfl, upd_same, .cons (.ty _) (.cons (.ty _) .nil), ty _ e1, kt, k _ e1⟩
theorem ok_isN {f : Addr} {fd : FuncData} {fisW fisL fisN fare : Addr} {disW disL disN dare : FuncData} (F : Fun K "_is_name" "_is_name" sIsN f fd) (T2 : TxN K mg fisW fisL fisN fare) (GisW : FnOk P w K mg base CX0 1 fisW disW ["thing"] spIsW) (bisW : Binds K disW ["thing"] []) : FnOk P w K mg base CX0 2 f fd ["thing"] (spD isName) := by
  refine F.ok scIsN (fun vs H Q E h => ?_) (fun cdv A outer s H vs Q E hr h => ?_)
  · obtain ⟨v, d, S, n, rfl, _⟩ := h
    rfl
  · obtain ⟨v, d, S, n, rfl, r, k⟩ := h
    refine ⟨_, (pss_one (ps_ret (pe_and (pe_call GisW (hr.mono (by decide)) rfl T2.m_isW T2.k_isW bisW .nil pass0 (pa_cons (pv 0) pa_nil)) (pe_one (pe_cmpR op_ne (pv 0) pe_str (nomark _)))))), ?_⟩
    refine ⟨_, rfl, v, d, S, n, rfl, r, fun H1 e1 => ⟨_, rfl, ?_⟩⟩
    by_cases hw : isWord d = true
    · rw [hw]
      refine iteT ?_
      have ed := word_str hw
      have ek : isName d = !decide (strOf d = "number") := by unfold isName; rw [hw]; rfl
      cases n with
      | zero => exact r.elim
      | succ n =>
        rw [ed] at r
        obtain ⟨rfl, _⟩ := r
        refine ⟨_, rfl, rfl, ?_⟩
        have e2 : decide (V.str (strOf d) = V.str "number") = decide (strOf d = "number") := decide_eq_decide.mpr ⟨fun z => by injection z, fun z => by rw [z]⟩
        rw [e2, ← ek]
        exact k H1 e1
    · have hw' : isWord d = false := by simpa using hw
      have ek : isName d = false := by unfold isName; rw [hw']; rfl
      rw [hw']
      rw [ek] at k
      refine iteF ?_
      exact k H1 e1
theorem ok_are {f : Addr} {fd : FuncData} {fisW fisL fisN fare : Addr} {disW disL disN dare : FuncData} (F : Fun K "_are_values" "_are_values" sAre f fd) (T : TxW mg) (T2 : TxN K mg fisW fisL fisN fare) (GisW : FnOk P w K mg base CX0 1 fisW disW ["thing"] spIsW) (bisW : Binds K disW ["thing"] [])
    (GisL : FnOk P w K mg base CX0 1 fisL disL ["thing"] (spD isList)) (bisL : Binds K disL ["thing"] []) : FnOk P w K mg base CX0 2 f fd ["thing"] (spD areValues) := by
  refine F.ok scAre (fun vs H Q E h => ?_) (fun cdv A outer s H vs Q E hr h => ?_)
  · obtain ⟨v, d, S, n, rfl, _⟩ := h
    rfl
  · obtain ⟨v, d, S, n, rfl, r, k⟩ := h
    by_cases hs : ∃ b ds, d = .seq b ds
    · obtain ⟨b, ds, rfl⟩ := hs
      refine ⟨_, (pss_cons (ps_if (PW.pt (pw_or (pt_not (pt_val (pe_call GisL (hr.mono (by decide)) rfl T2.m_isL T2.k_isL bisL .nil pass0 (pa_cons (pv 0) pa_nil)))) (pw_or1 (pt_not (pt_chain op_le op_le pe_int (pe_callB call_len_seq (by rfl) T.z_len (by decide +kernel) (pa_cons (pv 0) pa_nil)) (pe_glob (v := .int 3) rfl T2.g_MV.choose_spec ⟨_, rfl⟩)))))) (pss_one (ps_ret pe_bl)) pss_nil) (pss_one (ps_ret (pe_and (pe_callB (cr_all rfl) (by rfl) T.z_all (by decide +kernel) (pa_cons (pe_lc (own := [("value", 1)]) (g := gName 1) (tt := tYes) rfl scAre.nd (PI.or (pi_list (pv 0)) (pi_tup (pv 0))) (blkOk_by (N := nAre) (sc := defScope sAre) (by decide +kernel)) (fun _ _ _ _ _ => pg_name (i := 1) scAre.nd rfl (Or.inl rfl)) (fun _ _ _ _ _ => pts_nil) (fun _ _ _ _ _ => (pe_call GisW (hr.mono (by decide)) rfl T2.m_isW T2.k_isW bisW .nil pass0 (pa_cons (pv 1) pa_nil)))) pa_nil)) (pe_one (pe_cmpR op_eq (L2.Vs.pe_lenS rfl rfl T.z_len rfl T.z_set (pv 0)) (pe_callB call_len_seq (by rfl) T.z_len (by decide +kernel) (pa_cons (pv 0) pa_nil)) (nomark _))))))), ?_⟩
      refine ⟨_, rfl, v, _, S, n, rfl, r, fun H1 e1 => ⟨_, rfl, ?_⟩⟩
      refine iteF ?_
      cases n with
      | zero => exact r.elim
      | succ n =>
        obtain ⟨a, us, rfl, ns, ha, hl, hp⟩ := r
        have hlen : us.length = ds.length := Paired.length hp
        refine ⟨_, rfl, a, us, rfl, SqV.sq (e1 _ _ ha), _, _, rfl, rfl, _, rfl, ?_⟩
        by_cases h1 : (1 : Int) ≤ (us.length : Int)
        · rw [decide_eq_true h1]
          refine iteT ?_
          refine ⟨_, _, rfl, rfl, _, rfl, ?_⟩
          by_cases h2 : (us.length : Int) ≤ 3
          · rw [decide_eq_true h2]
            refine iteF ?_
            have h12 : 1 ≤ ds.length ∧ ds.length ≤ 3 := by omega
            have ek : areValues (.seq b ds) = (ds.all isWord && decide (ds.map strOf).Nodup) := by
              show (decide (1 ≤ ds.length ∧ ds.length ≤ 3) && _) = _
              rw [decide_eq_true h12]; rfl
            rw [ek] at k
            obtain ⟨J, wk, hJ⟩ := seq_it (K := K) (b := b) (a := a) (us := us)
            refine hJ (tVar 0) _ _ _ ⟨_, rfl, rfl, e1 _ _ ha, fun D nD => ?_⟩ mono_var
            refine lc_it wk (fun i H3 => H3 D = some (.lst (((ds.take i).map isWord).map V.bl)) ∧ Same H1 H3) ⟨upd_same, same_new nD⟩ (fun i H3 _ z => z.2 _ _ (e1 _ _ ha)) ?_ ?_
            · rintro i y H3 H3' hi ⟨hD, e3⟩ ⟨rfl, hy⟩
              refine ⟨rfl, ?_⟩
              unfold tYes
              refine iteT ?_
              have hd := List.getElem?_eq_getElem (l := ds) (i := i) (by omega)
              have ry : Rep H n S y (ds[i]'(by omega)) := by
                obtain ⟨d', h1', h2'⟩ := Paired.get hp hy
                rw [hd] at h1'
                cases h1'
                exact h2'
              refine ⟨_, rfl, y, _, S, n, rfl, ry.kp (Kp.of (e1.trans e3)), fun H4 e4 => ⟨_, e4 _ _ hD, ?_, ?_, fun c o z => ?_⟩⟩
              · rw [List.length_map, List.length_map, List.length_take]
                exact Nat.lt_of_le_of_lt (by omega : _ ≤ 60) (by decide)
              · rw [upd_same, take_more1 hd, List.map_append, List.map_append]
                rfl
              · rw [upd_ne (ne_of_none z nD)]
                exact e4 _ _ (e3 _ _ z)
            · rintro H3 ⟨hD, e3⟩
              rw [hlen, List.take_length] at hD
              refine ⟨D, _, rfl, SqL.of hD, _, rfl, ?_⟩
              rw [List.all_map, show (id ∘ isWord) = isWord from rfl]
              by_cases hw : ds.all isWord = true
              · rw [hw] at k ⊢
                refine iteT ?_
                have eu := words_strs hp hw
                have ha3 := e3 _ _ (e1 _ _ ha)
                refine ⟨_, rfl, a, ds.map strOf, rfl, ?_, ?_, ?_⟩
                · rw [← eu]; exact SqV.sq ha3
                · rw [List.length_map]; omega
                · refine ⟨_, rfl, a, us, rfl, SqV.sq ha3, rfl, ?_⟩
                  have e2 : decide (V.int ((_root_.Vs.dcn (ds.map strOf) (ds.map strOf).length : Nat) : Int) = V.int (us.length : Int)) = decide (ds.map strOf).Nodup := by
                    refine decide_eq_decide.mpr ?_
                    have q := _root_.Vs.dcn_nodup (xs := ds.map strOf) (i := (ds.map strOf).length) (Nat.le_refl _)
                    rw [List.take_length] at q
                    rw [← q]
                    have hl2 : (ds.map strOf).length = us.length := by rw [List.length_map]; exact hlen.symm
                    constructor
                    · intro z
                      injection z with z
                      omega
                    · intro z
                      rw [z, hl2]
                  rw [e2]
                  exact k H3 (e1.trans e3)
              · have hw' : ds.all isWord = false := by simpa using hw
                rw [hw'] at k ⊢
                refine iteF ?_
                exact k H3 (e1.trans e3)
          · rw [decide_eq_false h2]
            refine iteT ?_
            have ek : areValues (.seq b ds) = false := by
              show (decide (1 ≤ ds.length ∧ ds.length ≤ 3) && _) = _
              rw [decide_eq_false (by omega)]; rfl
            rw [ek] at k
            exact k H1 e1
        · rw [decide_eq_false h1]
          refine iteF ?_
          refine ⟨_, rfl, ?_⟩
          refine iteT ?_
          have ek : areValues (.seq b ds) = false := by
            show (decide (1 ≤ ds.length ∧ ds.length ≤ 3) && _) = _
            rw [decide_eq_false (by omega)]; rfl
          rw [ek] at k
          exact k H1 e1
    · refine ⟨_, (pss_cons (ps_if (PW.pt (pw_or (pt_not (pt_val (pe_call GisL (hr.mono (by decide)) rfl T2.m_isL T2.k_isL bisL .nil pass0 (pa_cons (pv 0) pa_nil)))) (pw_or1 pt_no))) (pss_one (ps_ret pe_bl)) pss_nil) pss_never), ?_⟩
      have e : isList d = false ∧ areValues d = false := by
        cases d with
        | seq b ds => exact absurd ⟨_, _, rfl⟩ hs
        | _ => exact ⟨rfl, rfl⟩
      refine ⟨_, rfl, v, d, S, n, rfl, r, fun H1 e1 => ⟨_, rfl, ?_⟩⟩
      rw [e.1]
      rw [e.2] at k
      refine iteT ?_
      refine iteT ?_
      exact k H1 e1
theorem ok_told {f : Addr} {fd : FuncData} {fisW fisL fisN fare : Addr} {disW disL disN dare : FuncData} (F : Fun K "_is_told" "_is_told" sTold f fd) (T : TxW mg) (T2 : TxN K mg fisW fisL fisN fare)
    (GisL : FnOk P w K mg base CX0 1 fisL disL ["thing"] (spD isList)) (bisL : Binds K disL ["thing"] []) (GisN : FnOk P w K mg base CX0 2 fisN disN ["thing"] (spD isName)) (bisN : Binds K disN ["thing"] []) (Gare : FnOk P w K mg base CX0 2 fare dare ["thing"] (spD areValues)) (bare : Binds K dare ["thing"] []) :
    FnOk P w K mg base CX0 3 f fd ["thing"] (spD isTold) := by
  refine F.ok scTold (fun vs H Q E h => ?_) (fun cdv A outer s H vs Q E hr h => ?_)
  · obtain ⟨v, d, S, n, rfl, _⟩ := h
    rfl
  · obtain ⟨v, d, S, n, rfl, r, k⟩ := h
    by_cases hs : ∃ b ds, d = .seq b ds
    · obtain ⟨b, ds, rfl⟩ := hs
      refine ⟨_, (pss_one (ps_ret (pe_and (pe_call GisL (hr.mono (by decide)) rfl T2.m_isL T2.k_isL bisL .nil pass0 (pa_cons (pv 0) pa_nil)) (pe_and (pe_cmpR op_eq (pe_callB call_len_seq (by rfl) T.z_len (by decide +kernel) (pa_cons (pv 0) pa_nil)) pe_int (nomark _)) (pe_and (pe_call GisN (hr.mono (by decide)) rfl T2.m_isN T2.k_isN bisN .nil pass0 (pa_cons (pe_ix ix_seq (pv 0) pe_int (fun _ _ => rfl)) pa_nil)) (pe_one (pe_call Gare (hr.mono (by decide)) rfl T2.m_are T2.k_are bare .nil pass0 (pa_cons (pe_ix ix_seq (pv 0) pe_int (fun _ _ => rfl)) pa_nil)))))))), ?_⟩
      refine ⟨_, rfl, v, _, S, n, rfl, r, fun H1 e1 => ⟨_, rfl, ?_⟩⟩
      refine iteT ?_
      cases n with
      | zero => exact r.elim
      | succ n =>
        obtain ⟨a, us, rfl, ns, ha, hl, hp⟩ := r
        have hlen : us.length = ds.length := Paired.length hp
        refine ⟨_, rfl, a, us, rfl, SqV.sq (e1 _ _ ha), rfl, _, rfl, ?_⟩
        by_cases h2 : us.length = 2
        · rw [decide_eq_true (show V.int (us.length : Int) = V.int 2 by rw [h2]; rfl)]
          refine iteT ?_
          obtain ⟨u1, u2, rfl⟩ : ∃ u1 u2, us = [u1, u2] := by
            match us, h2 with
            | [u1, u2], _ => exact ⟨u1, u2, rfl⟩
          cases hp with
          | @cons _ d1 _ _ r1 t1 =>
            cases t1 with
            | @cons _ d2 _ _ r2 t2 =>
              cases t2
              have sq := SqV.sq (K := K) (e1 _ _ ha)
              refine ⟨_, rfl, ?_⟩
              refine ix_go (K := K) (i := 0) (v := u1) sq rfl ?_
              refine ⟨u1, d1, S, n, rfl, r1.kp (Kp.of e1), fun H2 e2 => ⟨_, rfl, ?_⟩⟩
              have ek : isTold (.seq b [d1, d2]) = (isName d1 && areValues d2) := rfl
              rw [ek] at k
              by_cases hn : isName d1 = true
              · rw [hn] at k ⊢
                refine iteT ?_
                refine ⟨_, rfl, ?_⟩
                refine ix_go (K := K) (i := 1) (v := u2) (SqV.sq (K := K) (e2 _ _ (e1 _ _ ha))) rfl ?_
                exact ⟨u2, d2, S, n, rfl, r2.kp (Kp.of (e1.trans e2)), fun H3 e3 => k H3 (e1.trans (e2.trans e3))⟩
              · have hn' : isName d1 = false := by simpa using hn
                rw [hn'] at k ⊢
                refine iteF ?_
                exact k H2 (e1.trans e2)
        · rw [decide_eq_false (show ¬ V.int (us.length : Int) = V.int 2 by intro z; injection z with z; omega)]
          refine iteF ?_
          have ek : isTold (.seq b ds) = false := by
            match ds, hlen with
            | [], _ => rfl
            | [_], _ => rfl
            | [_, _], z => exact absurd z h2
            | _ :: _ :: _ :: _, _ => rfl
          rw [ek] at k
          exact k H1 e1
    · refine ⟨_, (pss_one (ps_ret (pe_and (pe_call GisL (hr.mono (by decide)) rfl T2.m_isL T2.k_isL bisL .nil pass0 (pa_cons (pv 0) pa_nil)) pe_no))), ?_⟩
      have e : isList d = false ∧ isTold d = false := by
        cases d with
        | seq b ds => exact absurd ⟨_, _, rfl⟩ hs
        | _ => exact ⟨rfl, rfl⟩
      refine ⟨_, rfl, v, d, S, n, rfl, r, fun H1 e1 => ⟨_, rfl, ?_⟩⟩
      rw [e.1]
      rw [e.2] at k
      refine iteF ?_
      exact k H1 e1
end
end L2.E2

namespace L2.E2
open PySem PySem.Spec PyProof.Rows L2.Vx
abbrev sCol : Stmt := top 17
abbrev sInit : Stmt := inClass sCol 0
abbrev sEB : Stmt := inClass (top 3) 0
abbrev sEN : Stmt := inClass (top 4) 0
abbrev nInit : List Str := ["self", "told", "free", "values", "index", "thing", "place", "name"]
/-! ### the first thing that is wrong -/
def nameT : D → Str
  | .seq _ (x :: _) => strOf x
  | _ => Str.empty
def okT (ns : List Str) (i : Nat) (d : D) : Bool := !decide (i = 3) && (isTold d && !decide (nameT d ∈ ns))
def goT : List Str → Nat → List D → Nat ⊕ List Str
  | ns, _, [] => .inr ns
  | ns, i, d :: r => if okT ns i d = true then goT (ns ++ [nameT d]) (i + 1) r else .inl i
def okF (tn : Nat) (ns : List Str) (j : Nat) (d : D) : Bool := !decide (tn + j = 3) && (!decide (j = 2) && (isName d && !decide (strOf d ∈ ns)))
def goF (tn : Nat) : List Str → Nat → List D → Nat ⊕ List Str
  | ns, _, [] => .inr ns
  | ns, j, d :: r => if okF tn ns j d = true then goF tn (ns ++ [strOf d]) (j + 1) r else .inl (tn + j)
def firstW (ds es : List D) : Nat ⊕ List Str := match goT [] 0 ds with
  | .inl i => .inl i
  | .inr ns => match goF ds.length ns 0 es with
    | .inl i => .inl i
    | .inr ns2 => if ns2 = [] then .inl 0 else .inr ns2
theorem told_form {d : D} (h : isTold d = true) : ∃ b x y, d = .seq b [x, y] ∧ isName x = true ∧ areValues y = true := by
  match d, h with
  | .seq b [x, y], h =>
    have h' : (isName x && areValues y) = true := h
    rw [Bool.and_eq_true] at h'
    exact ⟨b, x, y, rfl, h'.1, h'.2⟩
theorem vals_form {d : D} (h : areValues d = true) : ∃ b ds, d = .seq b ds := by
  match d, h with
  | .seq b ds, _ => exact ⟨b, ds, rfl⟩
theorem name_str {d : D} (h : isName d = true) : d = .leaf (.str (strOf d)) := by
  unfold isName at h
  rw [Bool.and_eq_true] at h
  exact word_str h.1
/-- the keys of the dict are these names -/
abbrev Keys (kvs : List (Key × V)) (ns : List Str) : Prop := kvs.map (·.1) = ns.map Sum.inr
theorem keys_none {kvs : List (Key × V)} {ns : List Str} (h : Keys kvs ns) {x : Str} : valV kvs (Sum.inr x) = none ↔ x ∉ ns := by
  rw [show (valV kvs (Sum.inr x) = none) = ((kvs.find? fun kv => kv.1 = Sum.inr x).map (·.2) = none) from rfl, Option.map_eq_none_iff, List.find?_eq_none]
  constructor
  · intro z hx
    have : (Sum.inr x : Key) ∈ kvs.map (·.1) := by rw [h]; exact List.mem_map_of_mem hx
    obtain ⟨kv, hk, e⟩ := List.mem_map.mp this
    exact z kv hk (by simpa using e)
  · intro z kv hk e
    have : (Sum.inr x : Key) ∈ kvs.map (·.1) := List.mem_map.mpr ⟨kv, hk, by simpa using e⟩
    rw [h] at this
    obtain ⟨y, hy, ey⟩ := List.mem_map.mp this
    injection ey with ey
    exact z (ey ▸ hy)
theorem keys_put {kvs : List (Key × V)} {ns : List Str} (h : Keys kvs ns) {x : Str} (hx : x ∉ ns) (v : V) : Keys (putK kvs (Sum.inr x) v) (ns ++ [x]) := by
  rw [putK_new _ ((keys_none h).mpr hx)]
  show List.map _ (kvs ++ [_]) = _
  rw [List.map_append, h, List.map_append]
  rfl
theorem keys_len {kvs : List (Key × V)} {ns : List Str} (h : Keys kvs ns) : kvs.length = ns.length := by
  have := congrArg List.length h
  simpa using this
/-- a walk over enumerate of either -/
theorem enum_it {K : PySem.W.Frag} {b : Bool} {a : Addr} {us : List V} : ∃ J : It, Walk J us.length (fun H => H a = some (mkS b us)) (YPair (fun i => some (.int (i : Nat))) (fun i => us[i]?)) ∧ ∀ (ta : TA) (σ : St) (H : Hp) (R : It → Hp → Prop),
    (∀ Q, Q [.ref a] H → ta σ H Q) → H a = some (mkS b us) → R J H → (iEnum K ta σ H R ∨ L2.Vy.iEnT K ta σ H R) := by
  cases b
  · exact ⟨L2.Vy.IteT K a, (L2.Vy.walk_enT (K := K) (xs := us)).mono (fun H h => SqT.of h) fun _ _ _ _ _ _ y => y, fun ta σ H R m h r => .inr (m _ ⟨a, us, rfl, SqT.of h, r⟩)⟩
  · exact ⟨Ite K a, (walk_enum (K := K) (xs := us)).mono (fun H h => SqL.of h) fun _ _ _ _ _ _ y => y, fun ta σ H R m h r => .inl (m _ ⟨a, us, rfl, SqL.of h, r⟩)⟩
/-- what stands at the two things that are passed -/
structure Two (H : Hp) (S : Addr → Prop) (n : Nat) (vt vf : V) (bt bf : Bool) (us vs : List V) (ds es : List D) (pt pf : Addr) : Prop where
  et : vt = .ref pt
  ef : vf = .ref pf
  ht : H pt = some (mkS bt us)
  hf : H pf = some (mkS bf vs)
  lt : us.length ≤ 20
  lf : vs.length ≤ 20
  rt : Paired (Rep H n S) us ds
  rf : Paired (Rep H n S) vs es
def spEI (f : Str) (C : Addr) : Sp := fun vs H Q _ => ∃ (a : Addr) (v : V), vs = [.ref a, v] ∧ H a = some (exo a C none) ∧
  ∀ dx, H dx = none → dx ≠ a → Q .non (upd (upd H dx (exd dx [(f, v)])) a (exo a C (some dx)))
def spInit (C CB : Addr) : Sp := fun vs H Q E => ∃ (p dx : Addr) (vt vf : V) (S : Addr → Prop) (n : Nat) (bt bf : Bool) (us ws : List V) (ds es : List D) (pt pf : Addr), vs = [.ref p, vt, vf] ∧ H p = some (.ins C dx []) ∧ Two H S n vt vf bt bf us ws ds es pt pf ∧
  (∀ i, firstW ds es = .inl i → ∀ d H', Same H H' → H' d = some (.xd [("index", .int (i : Int))]) → E (.ref CB) (some d) H') ∧
  (∀ ns, firstW ds es = .inr ns → ∀ d kvs H', (∀ c o, H c = some o → c ≠ p → H' c = some o) → H' p = some (.ins C dx [("_values", .ref d)]) → H' d = some (.dK kvs) → Keys kvs ns → H d = none → Q .non H')
structure TxI (K : PySem.W.Frag) (mg : Str → Option Value) (C CB fB ftold : Addr) : Prop where
  cl : Cls K C
  nV : NoAttr K C "_values"
  bc : ErC K CB
  iB : PySem.W.findIn K (.ref CB) "__init__" = some (some (.ref fB))
  tB : PySem.W.typeIn K (.ref fB) = some (.type "function")
  noB : PySem.W.findIn K (.ref CB) "index" = some none
  gB : mg "BadColumns" = some (.ref CB)
  z_enumerate : mg "enumerate" = none
  m_told : mg "_is_told" = some (.ref ftold)
  k_told : PySem.W.keepIn K (.ref ftold) = true
  g_MC : ∃ t, mg "MOST_COLUMNS" = some (.int 3 t)
  g_MF : ∃ t, mg "MOST_FREE" = some (.int 2 t)
section
variable {P : Program} {w : World} {K : PySem.W.Frag} {mg : Str → Option Value} {base : Heap}
theorem scEB : FnScope ["self", "index"] ["self", "index"] (defScope sEB) := ⟨rfl, rfl, rfl, by decide +kernel, rfl, by decide +kernel, by decide +kernel⟩
theorem scEN : FnScope ["self", "name"] ["self", "name"] (defScope sEN) := ⟨rfl, rfl, rfl, by decide +kernel, rfl, by decide +kernel, by decide +kernel⟩
theorem scInit : FnScope nInit ["self", "told", "free"] (defScope sInit) := ⟨rfl, rfl, rfl, by decide +kernel, rfl, by decide +kernel, by decide +kernel⟩
theorem ok_eB {f C : Addr} {fd : FuncData} (F : Fun K "__init__" "BadColumns.__init__" sEB f fd) (E : ErC K C) (no : PySem.W.findIn K (.ref C) "index" = some none) : FnOk P w K mg base CX0 1 f fd ["self", "index"] (spEI "index" C) := by
  refine F.ok scEB (fun vs H Q E h => ?_) (fun cdv A outer s H vs Q E' hr h => ?_)
  · obtain ⟨a, v, rfl, _⟩ := h
    rfl
  · obtain ⟨a, v, rfl, ha, k⟩ := h
    refine ⟨_, pss_one (ps_ost (pv 0) (pv 1)), ?_⟩
    exact ⟨_, rfl, _, rfl, a, C, rfl, E.ox, no, .inl ⟨ha, k⟩⟩
theorem ok_eN {f C : Addr} {fd : FuncData} (F : Fun K "__init__" "NoColumn.__init__" sEN f fd) (E : ErC K C) (no : PySem.W.findIn K (.ref C) "name" = some none) : FnOk P w K mg base CX0 1 f fd ["self", "name"] (spEI "name" C) := by
  refine F.ok scEN (fun vs H Q E h => ?_) (fun cdv A outer s H vs Q E' hr h => ?_)
  · obtain ⟨a, v, rfl, _⟩ := h
    rfl
  · obtain ⟨a, v, rfl, ha, k⟩ := h
    refine ⟨_, pss_one (ps_ost (pv 0) (pv 1)), ?_⟩
    exact ⟨_, rfl, _, rfl, a, C, rfl, E.ox, no, .inl ⟨ha, k⟩⟩
/-- an error is raised: what is told of it -/
theorem up_go {f : Str} {C : Addr} {v : V} {H : Hp} {W : XK} (h : ∀ d H', Same H H' → H' d = some (.xd [(f, v)]) → W (.ref C) (some d) H') :
    ([v] : List V).length ≤ 1000 ∧ ∀ a, H a = none → spEI f C (.ref a :: ([v] ++ [])) (upd H a (exo a C none)) (fun u H2 => u = .non ∧ ∃ (d : Addr) (fs : List (Str × V)), H2 a = some (exo a C (some d)) ∧ H2 d = some (exd d fs) ∧ H d = none ∧ W (.ref C) (some d) (upd (del H2 a) d (.xd fs))) (fun _ _ _ => False) := by
  refine ⟨by show 1 ≤ 1000; decide, fun a na => ⟨a, v, rfl, upd_same, fun dx n ne => ⟨rfl, dx, _, upd_same, by rw [upd_ne ne]; exact upd_same, ?_, ?_⟩⟩⟩
  · rw [upd_ne ne] at n; exact n
  · refine h dx _ (fun c o z => ?_) upd_same
    have ca : c ≠ a := ne_of_none z na
    have cd : c ≠ dx := fun e => by rw [upd_ne ne] at n; rw [e, n] at z; cases z
    rw [upd_ne cd, del_ne ca, upd_ne ca, upd_ne cd, upd_ne ca]
    exact z
theorem ok_init {f C CB fB : Addr} {fd dB : FuncData} {fisW fisL fisN fare : Addr} {disW disL disN dare : FuncData} {ftold : Addr} {dtold : FuncData} {dvs : List V} (F : FunD K "__init__" "Columns.__init__" (defArgs sInit) (defBody sInit) (defScope sInit) dvs [] f fd) (T : TxW mg) (T2 : TxN K mg fisW fisL fisN fare) (T3 : TxI K mg C CB fB ftold)
    (GB : FnOk P w K mg base CX0 1 fB dB ["self", "index"] (spEI "index" CB)) (bB : Binds K dB ["self", "index"] []) (GisN : FnOk P w K mg base CX0 2 fisN disN ["thing"] (spD isName)) (bisN : Binds K disN ["thing"] [])
    (Gtold : FnOk P w K mg base CX0 3 ftold dtold ["thing"] (spD isTold)) (btold : Binds K dtold ["thing"] []) : FnOk P w K mg base (L2.CX P w) 4 f fd ["self", "told", "free"] (spInit C CB) := by
  refine F.ok (CX := L2.CX P w) scInit (fun vs H Q E h => ?_) (fun cdv A outer s H vs Q E hr h => ?_)
  · obtain ⟨p, dx, vt, vf, S, n, bt, bf, us, ws, ds, es, pt, pf, rfl, _⟩ := h
    rfl
  · obtain ⟨p, dx, vt, vf, S, n, bt, bf, us, ws, ds, es, pt, pf, rfl, hp, W2, kE, kQ⟩ := h
    obtain ⟨rfl, rfl, ht, hf, lt, lf, rt, rf⟩ := W2
    refine ⟨_, (pss_cons (ps_set (i := 3) scInit.nd rfl (Or.inl rfl) pe_dnewK) (C8.pss_cut (ps_for (passes_of rfl) rfl (PI.or (pi_enum (by rfl) T3.z_enumerate (pa_cons (pv 1) pa_nil)) (L2.Vy.pi_enT (by rfl) T3.z_enumerate (pa_cons (pv 1) pa_nil))) (pg_tup rfl (pgs_cons (pg_name (i := 4) scInit.nd rfl (Or.inl rfl)) (pgs_cons (pg_name (i := 5) scInit.nd rfl (Or.inl rfl)) pgs_nil))) (pss_cons (ps_if (PW.pt (pw_or (pt_cmpR op_eq (pv 4) (pe_glob (v := .int 3) rfl T3.g_MC.choose_spec ⟨_, rfl⟩) (nomark _)) (pw_or (pt_not (pt_val (pe_call Gtold (hr.mono (by decide)) rfl T3.m_told T3.k_told btold .nil pass0 (pa_cons (pv 5) pa_nil)))) (pw_or1 (pt_cmp (pc_din (hu_of hr) (pe_ix ix_seq (pv 5) pe_int (fun _ _ => rfl)) (pv 3))))))) (pss_one (ps_raise rfl (takes_of rfl rfl rfl rfl) (pmk_oex T3.bc.ox T3.iB T3.tB GB (hr.mono (by decide)) bB .nil pass0 rfl T3.gB (pa_cons (pv 4) pa_nil)))) pss_nil) (pss_one (ps_dput (hu_of hr) (pv 3) (pe_ix ix_seq (pv 5) pe_int (fun _ _ => rfl)) (pe_callTy call_tuple_of (by rfl) T.z_tuple (by decide +kernel) (pa_cons (pe_ix ix_seq (pv 5) pe_int (fun _ _ => rfl)) pa_nil)) rfl)))) (C8.pss_cut (ps_for (passes_of rfl) rfl (PI.or (pi_enum (by rfl) T3.z_enumerate (pa_cons (pv 2) pa_nil)) (L2.Vy.pi_enT (by rfl) T3.z_enumerate (pa_cons (pv 2) pa_nil))) (pg_tup rfl (pgs_cons (pg_name (i := 6) scInit.nd rfl (Or.inl rfl)) (pgs_cons (pg_name (i := 7) scInit.nd rfl (Or.inl rfl)) pgs_nil))) (pss_cons (ps_set (i := 4) scInit.nd rfl (Or.inl rfl) (pe_op op_add (pe_callB call_len_seq (by rfl) T.z_len (by decide +kernel) (pa_cons (pv 1) pa_nil)) (pv 6))) (pss_cons (ps_if (PW.pt (pw_or (pt_cmpR op_eq (pv 4) (pe_glob (v := .int 3) rfl T3.g_MC.choose_spec ⟨_, rfl⟩) (nomark _)) (pw_or (pt_cmpR op_eq (pv 6) (pe_glob (v := .int 2) rfl T3.g_MF.choose_spec ⟨_, rfl⟩) (nomark _)) (pw_or (pt_not (pt_val (pe_call GisN (hr.mono (by decide)) rfl T2.m_isN T2.k_isN bisN .nil pass0 (pa_cons (pv 7) pa_nil)))) (pw_or1 (pt_cmp (pc_din (hu_of hr) (pv 7) (pv 3)))))))) (pss_one (ps_raise rfl (takes_of rfl rfl rfl rfl) (pmk_oex T3.bc.ox T3.iB T3.tB GB (hr.mono (by decide)) bB .nil pass0 rfl T3.gB (pa_cons (pv 4) pa_nil)))) pss_nil) (pss_one (ps_dput (hu_of hr) (pv 3) (pv 7) pe_non rfl))))) (pss_cons (ps_if (pt_not (pt_truth (pv 3) (by intro _; rfl))) (pss_one (ps_raise rfl (takes_of rfl rfl rfl rfl) (pmk_oex T3.bc.ox T3.iB T3.tB GB (hr.mono (by decide)) bB .nil pass0 rfl T3.gB (pa_cons pe_int pa_nil)))) pss_nil) (pss_one (ps_fld (pv 0) (pv 3) rfl)))))), ?_⟩
    -- values = {}
    intro d nd
    have dp : d ≠ p := fun z => by rw [z, hp] at nd; cases nd
    -- what stands while the dict grows
    refine ⟨fun σ H3 => ∃ v4 v5 ns kvs, σ = [some (.ref p), some (.ref pt), some (.ref pf), some (.ref d), v4, v5, none, none] ∧ goT [] 0 ds = .inr ns ∧ ns.length = ds.length ∧ H3 d = some (.dK kvs) ∧ Keys kvs ns ∧ Same H H3, ?_, ?_⟩
    · obtain ⟨J, wk, hJ⟩ := enum_it (K := K) (b := bt) (a := pt) (us := us)
      refine hJ _ _ _ _ (fun Q q => ⟨_, rfl, q⟩) (same_new nd _ _ ht) ?_
      refine for_it wk (fun i σ H3 => ∃ v4 v5 ns kvs, σ = [some (.ref p), some (.ref pt), some (.ref pf), some (.ref d), v4, v5, none, none] ∧ goT [] 0 ds = goT ns i (ds.drop i) ∧ ns.length = i ∧ H3 d = some (.dK kvs) ∧ Keys kvs ns ∧ Same H H3)
        ⟨none, none, [], [], rfl, rfl, rfl, upd_same, rfl, same_new nd⟩ (fun i σ H3 _ z => by obtain ⟨_, _, _, _, _, _, _, _, _, e3⟩ := z; exact e3 _ _ ht) ?_ ?_
      · rintro i x σ H3 H3' hi ⟨v4, v5, ns, kvs, rfl, hg, hln, hd, hk, e3⟩ ⟨q, x1, y1, rfl, nq, e, hx1, hy1⟩
        subst e
        obtain rfl : V.int (i : Nat) = x1 := Option.some.inj hx1
        have e4 := same_new (o := .tup [V.int (i : Nat), y1]) nq
        refine ⟨q, _, rfl, SqT.of upd_same, rfl, _, _, rfl, _, _, rfl, rfl, ?_⟩
        have hd4 := e4 _ _ hd
        have e34 := e3.trans e4
        generalize upd H3 q (.tup [V.int (i : Nat), y1]) = H4 at hd4 e34
        obtain ⟨di, hdi, ri⟩ := Paired.get rt hy1
        have hlu : us.length = ds.length := Paired.length rt
        have hdr : ds.drop i = di :: ds.drop (i + 1) := by
          have hi' : i < ds.length := by omega
          rw [List.drop_eq_getElem_cons hi']
          congr 1
          rw [List.getElem?_eq_getElem hi'] at hdi
          exact Option.some.inj hdi
        rw [hdr] at hg
        have hbad : okT ns i di = false → firstW ds es = .inl i := fun z => by
          unfold firstW
          rw [hg]
          show (match (if okT ns i di = true then goT (ns ++ [nameT di]) (i + 1) (ds.drop (i + 1)) else .inl i) with | .inl i => _ | .inr ns => _) = _
          rw [z]
          rfl
        -- index == MOST_COLUMNS
        refine ⟨_, rfl, rfl, _, rfl, ?_⟩
        by_cases h3 : i = 3
        · rw [decide_eq_true (show V.int (i : Int) = V.int 3 by rw [h3]; rfl)]
          refine iteT ?_
          refine iteT ?_
          have hb : okT ns i di = false := by unfold okT; rw [decide_eq_true h3]; rfl
          exact ⟨_, rfl, up_go fun d' H' e5 g => kE i (hbad hb) d' H' (e34.trans e5) g⟩
        · rw [decide_eq_false (show ¬ V.int (i : Int) = V.int 3 by intro z; injection z with z; omega)]
          refine iteF ?_
          refine ⟨_, rfl, y1, di, S, n, rfl, ri.kp (Kp.of e34), fun H5 e5 => ⟨_, rfl, ?_⟩⟩
          have e35 := e34.trans e5
          have hd5 := e5 _ _ hd4
          by_cases hT : isTold di = true
          · rw [hT]
            refine iteF ?_
            obtain ⟨b, dx1, dy1, rfl, hn1, hv1⟩ := told_form hT
            cases n with
            | zero => exact ri.elim
            | succ n =>
              obtain ⟨at1, uu, rfl, _, ha1, _, hp1⟩ := ri.kp (Kp.of e35)
              cases hp1 with
              | @cons u1 _ _ _ r1 t1 =>
                cases t1 with
                | @cons u2 _ _ _ r2 t2 =>
                  cases t2
                  have en := name_str hn1
                  cases n with
                  | zero => exact r1.elim
                  | succ n =>
                    rw [en] at r1
                    obtain ⟨rfl, _⟩ := r1
                    refine ⟨_, rfl, ?_⟩
                    refine ix_go (K := K) (i := 0) (SqV.sq ha1) rfl ?_
                    refine ⟨_, rfl, d, _, rfl, DGet.k (k := Sum.inr (strOf dx1)) hd5, _, rfl, ?_⟩
                    have enm : nameT (.seq b [dx1, dy1]) = strOf dx1 := rfl
                    cases ev : valV kvs (Sum.inr (strOf dx1) : Key) with
                    | some v =>
                      refine iteT ?_
                      have hin : strOf dx1 ∈ ns := Classical.byContradiction fun z => by rw [(keys_none hk).mpr z] at ev; cases ev
                      have hb : okT ns i (.seq b [dx1, dy1]) = false := by unfold okT; rw [enm, decide_eq_true hin, Bool.not_true, Bool.and_false, Bool.and_false]
                      exact ⟨_, rfl, up_go fun d' H' e6 g => kE i (hbad hb) d' H' (e35.trans e6) g⟩
                    | none =>
                      refine iteF ?_
                      have hin : strOf dx1 ∉ ns := (keys_none hk).mp ev
                      have hb : okT ns i (.seq b [dx1, dy1]) = true := by unfold okT; rw [enm, decide_eq_false hin, decide_eq_false h3, hT]; rfl
                      obtain ⟨b2, dd2, rfl⟩ := vals_form hv1
                      obtain ⟨a2, uu2, rfl, _, ha2, _, hp2⟩ := r2
                      refine ⟨_, rfl, ?_⟩
                      refine ix_go (K := K) (i := 1) (SqV.sq ha1) rfl ?_
                      have fin : ∀ (v : V) (H6 : Hp), Same H5 H6 → (∃ w4 w5 ns' kvs', [some (.ref p), some (.ref pt), some (.ref pf), some (.ref d), some (.int (i : Nat)), some (.ref at1), none, none] = ([some (.ref p), some (.ref pt), some (.ref pf), some (.ref d), w4, w5, none, none] : St) ∧
                          goT [] 0 ds = goT ns' (i + 1) (ds.drop (i + 1)) ∧ ns'.length = i + 1 ∧ upd H6 d (.dK (putK kvs (Sum.inr (strOf dx1)) v)) d = some (.dK kvs') ∧ Keys kvs' ns' ∧ Same H (upd H6 d (.dK (putK kvs (Sum.inr (strOf dx1)) v)))) := fun v H6 e6 => by
                        refine ⟨_, _, ns ++ [strOf dx1], _, rfl, ?_, ?_, upd_same, keys_put hk hin v, fun c o z => ?_⟩
                        · rw [hg]
                          show (if okT ns i (.seq b [dx1, _]) = true then goT (ns ++ [strOf dx1]) (i + 1) (ds.drop (i + 1)) else .inl i) = _
                          rw [hb]
                          rfl
                        · rw [List.length_append, hln]; rfl
                        · rw [upd_ne (ne_of_none z nd)]
                          exact e6 _ _ (e35 _ _ z)
                      have hsz : kvs.length < sizeLine := by
                        rw [keys_len hk, hln]
                        exact Nat.lt_of_le_of_lt (by omega : i ≤ 20) (by decide)
                      cases b2 with
                      | true =>
                        refine ⟨a2, uu2, rfl, .inl ⟨SqL.of ha2, fun l nl => ?_⟩⟩
                        have e6 := same_new (o := .tup uu2) nl
                        refine ⟨_, rfl, _, rfl, ?_⟩
                        refine ix_go (K := K) (i := 0) (SqV.sq (e6 _ _ ha1)) rfl ?_
                        exact ⟨d, _, rfl, DPut.k (k := Sum.inr (strOf dx1)) (e6 _ _ hd5) hsz, fin _ _ e6⟩
                      | false =>
                        refine ⟨a2, uu2, rfl, .inr ⟨SqT.of ha2, ?_⟩⟩
                        refine ⟨_, rfl, _, rfl, ?_⟩
                        refine ix_go (K := K) (i := 0) (SqV.sq ha1) rfl ?_
                        exact ⟨d, _, rfl, DPut.k (k := Sum.inr (strOf dx1)) hd5 hsz, fin _ _ (Same.refl _)⟩
          · have hT' : isTold di = false := by simpa using hT
            rw [hT']
            refine iteT ?_
            refine iteT ?_
            have hb : okT ns i di = false := by unfold okT; rw [hT', Bool.false_and, Bool.and_false]
            exact ⟨_, rfl, up_go fun d' H' e6 g => kE i (hbad hb) d' H' (e35.trans e6) g⟩
      · rintro σ H3 ⟨v4, v5, ns, kvs, rfl, hg, hln, hd, hk, e3⟩
        have hlu : us.length = ds.length := Paired.length rt
        rw [hlu, List.drop_length] at hg
        exact ⟨v4, v5, ns, kvs, rfl, hg, by omega, hd, hk, e3⟩
    · rintro σ H3 ⟨v4, v5, ns, kvs, rfl, hgT, hln, hd, hk, e3⟩
      have hlu : us.length = ds.length := Paired.length rt
      have hlw : ws.length = es.length := Paired.length rf
      refine ⟨fun σ H4 => ∃ v4 v5 v6 v7 ns2 kvs2, σ = [some (.ref p), some (.ref pt), some (.ref pf), some (.ref d), v4, v5, v6, v7] ∧ goF ds.length ns 0 es = .inr ns2 ∧ H4 d = some (.dK kvs2) ∧ Keys kvs2 ns2 ∧ Same H H4, ?_, ?_⟩
      · obtain ⟨J, wk, hJ⟩ := enum_it (K := K) (b := bf) (a := pf) (us := ws)
        refine hJ _ _ _ _ (fun Q q => ⟨_, rfl, q⟩) (e3 _ _ hf) ?_
        refine for_it wk (fun j σ H4 => ∃ v4 v5 v6 v7 ns2 kvs2, σ = [some (.ref p), some (.ref pt), some (.ref pf), some (.ref d), v4, v5, v6, v7] ∧ goF ds.length ns 0 es = goF ds.length ns2 j (es.drop j) ∧ ns2.length = ds.length + j ∧ H4 d = some (.dK kvs2) ∧ Keys kvs2 ns2 ∧ Same H H4)
          ⟨v4, v5, none, none, ns, kvs, rfl, rfl, hln, hd, hk, e3⟩ (fun j σ H4 _ z => by obtain ⟨_, _, _, _, _, _, _, _, _, _, _, e4⟩ := z; exact e4 _ _ hf) ?_ ?_
        · rintro j x σ H4 H4' hj ⟨v4, v5, v6, v7, ns2, kvs2, rfl, hg, hln2, hd4, hk4, e4⟩ ⟨q, x1, y1, rfl, nq, e, hx1, hy1⟩
          subst e
          obtain rfl : V.int (j : Nat) = x1 := Option.some.inj hx1
          have e5 := same_new (o := .tup [V.int (j : Nat), y1]) nq
          refine ⟨q, _, rfl, SqT.of upd_same, rfl, _, _, rfl, _, _, rfl, rfl, ?_⟩
          have hd5 := e5 _ _ hd4
          have e35 := e4.trans e5
          generalize upd H4 q (.tup [V.int (j : Nat), y1]) = H5 at hd5 e35
          obtain ⟨dj, hdj, rj⟩ := Paired.get rf hy1
          have hdr : es.drop j = dj :: es.drop (j + 1) := by
            have hj' : j < es.length := by omega
            rw [List.drop_eq_getElem_cons hj']
            congr 1
            rw [List.getElem?_eq_getElem hj'] at hdj
            exact Option.some.inj hdj
          rw [hdr] at hg
          have hbad : okF ds.length ns2 j dj = false → firstW ds es = .inl (ds.length + j) := fun z => by
            unfold firstW
            rw [hgT]
            show (match goF ds.length ns 0 es with | .inl i => _ | .inr ns2 => _) = _
            rw [hg]
            show (match (if okF ds.length ns2 j dj = true then goF ds.length (ns2 ++ [strOf dj]) (j + 1) (es.drop (j + 1)) else .inl (ds.length + j)) with | .inl i => _ | .inr ns => _) = _
            rw [z]
            rfl
          have ev : V.int ((us.length : Int) + (j : Int)) = V.int ((ds.length + j : Nat) : Int) := by rw [hlu, Int.natCast_add]
          -- index = len(told) + place
          refine ⟨_, rfl, pt, us, rfl, SqV.sq (e35 _ _ ht), _, rfl, _, _, rfl, rfl, ?_⟩
          refine ⟨_, rfl, rfl, _, rfl, ?_⟩
          by_cases h3 : ds.length + j = 3
          · rw [decide_eq_true (show V.int ((us.length : Int) + (j : Int)) = V.int 3 by rw [ev, h3]; rfl)]
            refine iteT ?_
            refine iteT ?_
            have hb : okF ds.length ns2 j dj = false := by unfold okF; rw [decide_eq_true h3]; rfl
            exact ⟨_, rfl, up_go fun d' H' e6 g => kE _ (hbad hb) d' H' (e35.trans e6) (by rw [g]; exact congrArg (fun z => some (HO.xd [("index", z)])) ev)⟩
          · rw [decide_eq_false (show ¬ V.int ((us.length : Int) + (j : Int)) = V.int 3 by rw [ev]; intro z; injection z with z; omega)]
            refine iteF ?_
            refine ⟨_, rfl, rfl, _, rfl, ?_⟩
            by_cases h2 : j = 2
            · rw [decide_eq_true (show V.int (j : Int) = V.int 2 by rw [h2]; rfl)]
              refine iteT ?_
              refine iteT ?_
              have hb : okF ds.length ns2 j dj = false := by unfold okF; rw [decide_eq_true h2]; rw [Bool.not_true, Bool.false_and, Bool.and_false]
              exact ⟨_, rfl, up_go fun d' H' e6 g => kE _ (hbad hb) d' H' (e35.trans e6) (by rw [g]; exact congrArg (fun z => some (HO.xd [("index", z)])) ev)⟩
            · rw [decide_eq_false (show ¬ V.int (j : Int) = V.int 2 by intro z; injection z with z; omega)]
              refine iteF ?_
              refine ⟨_, rfl, y1, dj, S, n, rfl, rj.kp (Kp.of e35), fun H6 e6 => ⟨_, rfl, ?_⟩⟩
              have e36 := e35.trans e6
              have hd6 := e6 _ _ hd5
              by_cases hN : isName dj = true
              · rw [hN]
                refine iteF ?_
                have en := name_str hN
                cases n with
                | zero => exact rj.elim
                | succ n =>
                  have rj2 := rj
                  rw [en] at rj2
                  obtain ⟨rfl, _⟩ := rj2
                  refine ⟨_, rfl, _, rfl, d, _, rfl, DGet.k (k := Sum.inr (strOf dj)) hd6, _, rfl, ?_⟩
                  cases ew : valV kvs2 (Sum.inr (strOf dj) : Key) with
                  | some v =>
                    refine iteT ?_
                    have hin : strOf dj ∈ ns2 := Classical.byContradiction fun z => by rw [(keys_none hk4).mpr z] at ew; cases ew
                    have hb : okF ds.length ns2 j dj = false := by unfold okF; rw [decide_eq_true hin, Bool.not_true, Bool.and_false, Bool.and_false, Bool.and_false]
                    exact ⟨_, rfl, up_go fun d' H' e7 g => kE _ (hbad hb) d' H' (e36.trans e7) (by rw [g]; exact congrArg (fun z => some (HO.xd [("index", z)])) ev)⟩
                  | none =>
                    refine iteF ?_
                    have hin : strOf dj ∉ ns2 := (keys_none hk4).mp ew
                    have hb : okF ds.length ns2 j dj = true := by unfold okF; rw [decide_eq_false hin, decide_eq_false h3, decide_eq_false h2, hN]; rfl
                    have hsz : kvs2.length < sizeLine := by
                      rw [keys_len hk4, hln2]
                      exact Nat.lt_of_le_of_lt (by omega : ds.length + j ≤ 40) (by decide)
                    refine ⟨_, rfl, _, rfl, d, _, rfl, DPut.k (k := Sum.inr (strOf dj)) hd6 hsz, ?_⟩
                    refine ⟨_, _, _, _, ns2 ++ [strOf dj], _, rfl, ?_, ?_, upd_same, keys_put hk4 hin _, fun c o z => ?_⟩
                    · rw [hg]
                      show (if okF ds.length ns2 j dj = true then goF ds.length (ns2 ++ [strOf dj]) (j + 1) (es.drop (j + 1)) else .inl (ds.length + j)) = _
                      rw [hb]
                      rfl
                    · rw [List.length_append, hln2]; rfl
                    · rw [upd_ne (ne_of_none z nd)]
                      exact e36 _ _ z
              · have hN' : isName dj = false := by simpa using hN
                rw [hN']
                refine iteT ?_
                refine iteT ?_
                have hb : okF ds.length ns2 j dj = false := by unfold okF; rw [hN', Bool.false_and, Bool.and_false, Bool.and_false]
                exact ⟨_, rfl, up_go fun d' H' e7 g => kE _ (hbad hb) d' H' (e36.trans e7) (by rw [g]; exact congrArg (fun z => some (HO.xd [("index", z)])) ev)⟩
        · rintro σ H4 ⟨v4, v5, v6, v7, ns2, kvs2, rfl, hg, hln2, hd4, hk4, e4⟩
          rw [hlw, List.drop_length] at hg
          exact ⟨v4, v5, v6, v7, ns2, kvs2, rfl, hg, hd4, hk4, e4⟩
      · rintro σ H4 ⟨v4, v5, v6, v7, ns2, kvs2, rfl, hg, hd4, hk4, e4⟩
        refine ⟨_, rfl, _, .inr (.inr ⟨kvs2, hd4, rfl⟩), ?_⟩
        cases kvs2 with
        | nil =>
          refine iteT ?_
          have hn : ns2 = [] := by
            have := keys_len hk4
            exact List.eq_nil_of_length_eq_zero this.symm
          have hw : firstW ds es = .inl 0 := by
            unfold firstW
            rw [hgT]
            show (match goF ds.length ns 0 es with | .inl i => _ | .inr ns2 => _) = _
            rw [hg, hn]
            rfl
          exact up_go fun d' H' e6 g => kE 0 hw d' H' (e4.trans e6) g
        | cons kv r =>
          refine iteF ?_
          have hn : ns2 ≠ [] := fun z => by
            have := keys_len hk4
            rw [z] at this
            cases this
          have hw : firstW ds es = .inr ns2 := by
            unfold firstW
            rw [hgT]
            show (match goF ds.length ns 0 es with | .inl i => _ | .inr ns2 => _) = _
            rw [hg]
            show (if ns2 = [] then _ else _) = _
            rw [if_neg hn]
          refine ⟨_, rfl, _, rfl, p, C, dx, _, rfl, e4 _ _ hp, T3.cl, T3.nV, (by show 0 < 1000; decide), ?_⟩
          exact kQ ns2 hw d _ _ (fun c o z hc => by rw [upd_ne hc]; exact e4 _ _ z) upd_same (by rw [upd_ne dp]; exact hd4) hk4 nd
end
end L2.E2

namespace L2.E2
open PySem PySem.Spec PyProof.Rows L2.Vx
abbrev sNames : Stmt := inClass sCol 1
abbrev sTV : Stmt := inClass sCol 2
abbrev sCon : Stmt := inClass sCol 5
/-- a Columns object at p that has these names -/
structure ColAt (H : Hp) (C p : Addr) (ns : List Str) : Prop where
  ex : ∃ dx d kvs, H p = some (.ins C dx [("_values", .ref d)]) ∧ H d = some (.dK kvs) ∧ Keys kvs ns
def isIn (ns : List Str) : D → Bool
  | .leaf (.str x) => decide (x ∈ ns)
  | _ => false
def spNames (C : Addr) : Sp := fun vs H Q _ => ∃ (p : Addr) (ns : List Str), vs = [.ref p] ∧ ColAt H C p ns ∧ ∀ q H', Same H H' → H q = none → H' q = some (.lst (ns.map V.str)) → Q (.ref q) H'
def spCon (C : Addr) : Sp := fun vs H Q _ => ∃ (p : Addr) (ns : List Str) (v : V) (d : D) (S : Addr → Prop) (n : Nat), vs = [.ref p, v] ∧ ColAt H C p ns ∧ Rep H n S v d ∧ Q (.bl (isIn ns d)) H
def spTV (C CN : Addr) : Sp := fun vs H Q E => ∃ (p : Addr) (ns : List Str) (v : V) (d : D) (S : Addr → Prop) (n : Nat), vs = [.ref p, v] ∧ ColAt H C p ns ∧ Rep H n S v d ∧ isIn ns d = false ∧ ∀ dd H', Same H H' → H' dd = some (.xd [("name", v)]) → E (.ref CN) (some dd) H'
structure TxJ (K : PySem.W.Frag) (mg : Str → Option Value) (C CN fN fcon : Addr) : Prop where
  cl : Cls K C
  nV : NoAttr K C "_values"
  nc : ErC K CN
  iN : PySem.W.findIn K (.ref CN) "__init__" = some (some (.ref fN))
  tN : PySem.W.typeIn K (.ref fN) = some (.type "function")
  noN : PySem.W.findIn K (.ref CN) "name" = some none
  gN : mg "NoColumn" = some (.ref CN)
  own : L2.Vy.Own1 K C fcon "__contains__"
section
variable {P : Program} {w : World} {K : PySem.W.Frag} {mg : Str → Option Value} {base : Heap}
theorem scNames : FnScope ["self"] ["self"] (defScope sNames) := ⟨rfl, rfl, rfl, by decide +kernel, rfl, by decide +kernel, by decide +kernel⟩
theorem scTV : FnScope ["self", "name"] ["self", "name"] (defScope sTV) := ⟨rfl, rfl, rfl, by decide +kernel, rfl, by decide +kernel, by decide +kernel⟩
theorem scCon : FnScope ["self", "thing"] ["self", "thing"] (defScope sCon) := ⟨rfl, rfl, rfl, by decide +kernel, rfl, by decide +kernel, by decide +kernel⟩
theorem fld1 (d : Addr) : ([("_values", V.ref d)] : List (Str × V)).lookup ("_values" : Str) = some (.ref d) := by simp [List.lookup]
theorem ok_names {f C CN fN fcon : Addr} {fd : FuncData} (F : Fun K "names" "Columns.names" sNames f fd) (T : TxW mg) (T4 : TxJ K mg C CN fN fcon) : FnOk P w K mg base CX0 1 f fd ["self"] (spNames C) := by
  refine F.ok scNames (fun vs H Q E h => ?_) (fun cdv A outer s H vs Q E hr h => ?_)
  · obtain ⟨p, ns, rfl, _⟩ := h
    rfl
  · obtain ⟨p, ns, rfl, ⟨dx, d, kvs, hp, hd, hk⟩, k⟩ := h
    refine ⟨_, (pss_one (ps_ret (pe_callTy (call_list_dK rfl) (by rfl) T.z_list (by decide +kernel) (pa_cons (pe_fld (pv 0) rfl) pa_nil)))), ?_⟩
    refine ⟨_, rfl, p, C, dx, _, _, rfl, hp, T4.cl, T4.nV, fld1 d, d, kvs, rfl, hd, fun q nq => ?_⟩
    refine k q _ (same_new nq) nq ?_
    rw [upd_same]
    have e : kvs.map (fun kv => kV kv.1) = ns.map V.str := by
      have z := congrArg (List.map kV) hk
      rw [List.map_map, List.map_map] at z
      exact z
    rw [e]
theorem ok_con {f C CN fN fcon : Addr} {fd : FuncData} (F : Fun K "__contains__" "Columns.__contains__" sCon f fd) (T : TxW mg) (T4 : TxJ K mg C CN fN fcon) : FnOk P w K mg base CX0 1 f fd ["self", "thing"] (spCon C) := by
  refine F.ok scCon (fun vs H Q E h => ?_) (fun cdv A outer s H vs Q E hr h => ?_)
  · obtain ⟨p, ns, v, d, S, n, rfl, _⟩ := h
    rfl
  · obtain ⟨p, ns, v, d, S, n, rfl, ⟨dx, dd, kvs, hp, hd, hk⟩, r, k⟩ := h
    by_cases hs : ∃ x, d = .leaf (.str x)
    · obtain ⟨x, rfl⟩ := hs
      cases n with
      | zero => exact r.elim
      | succ n =>
        obtain ⟨rfl, lf⟩ := r
        refine ⟨_, (pss_one (ps_ret (pe_and (pe_callB call_isi (by rfl) T.z_isinstance (by decide +kernel) (pa_cons (pv 1) (pa_cons (pe_bltn (v := .ty "str") (by rfl) T.z_str (by decide +kernel) rfl) pa_nil))) (pe_one (pe_cmp (pc_din (hu_of hr) (pv 1) (pe_fld (pv 0) rfl))))))), ?_⟩
        refine ⟨_, rfl, .str x, .ty "str", .type "str", _, true, rfl, .ty _, .base (.str x), kit_ty (by decide +kernel), _, rfl, ?_⟩
        refine iteT ?_
        refine ⟨_, rfl, _, rfl, p, C, dx, _, _, rfl, hp, T4.cl, T4.nV, fld1 dd, dd, _, rfl, DGet.k (k := Sum.inr x) hd, ?_⟩
        have e : (valV kvs (Sum.inr x : Key)).isSome = isIn ns (.leaf (.str x)) := by
          show _ = decide (x ∈ ns)
          by_cases hx : x ∈ ns
          · rw [decide_eq_true hx]
            cases ev : valV kvs (Sum.inr x : Key) with
            | some _ => rfl
            | none => exact absurd hx ((keys_none hk).mp ev)
          · rw [decide_eq_false hx, (keys_none hk).mpr hx]
            rfl
        rw [e]
        exact k
    · refine ⟨_, (pss_one (ps_ret (pe_and (pe_callB call_isi (by rfl) T.z_isinstance (by decide +kernel) (pa_cons (pv 1) (pa_cons (pe_bltn (v := .ty "str") (by rfl) T.z_str (by decide +kernel) rfl) pa_nil))) pe_no))), ?_⟩
      have e : isIn ns d = false := by
        cases d with
        | leaf v => cases v <;> first | rfl | exact absurd ⟨_, rfl⟩ hs
        | _ => rfl
      obtain ⟨t, ty, kt⟩ := notStr (K := K) hs r
      refine ⟨_, rfl, v, .ty "str", t, _, false, rfl, .ty _, ty, kt, _, rfl, ?_⟩
      refine iteF ?_
      rw [e] at k
      exact k
theorem ok_tv {f C CN fN fcon : Addr} {fd dN dcon : FuncData} (F : Fun K "told_values" "Columns.told_values" sTV f fd) (T4 : TxJ K mg C CN fN fcon) (GN : FnOk P w K mg base CX0 1 fN dN ["self", "name"] (spEI "name" CN)) (bN : Binds K dN ["self", "name"] [])
    (Gcon : FnOk P w K mg base CX0 1 fcon dcon ["self", "thing"] (spCon C)) (bcon : Binds K dcon ["self", "thing"] []) : FnOk P w K mg base (L2.CX P w) 3 f fd ["self", "name"] (spTV C CN) := by
  refine F.okX scTV (fun vs H Q E h => ?_) (fun cdv A outer s H vs Q E hr h => ?_)
  · obtain ⟨p, ns, v, d, S, n, rfl, _⟩ := h
    rfl
  · obtain ⟨p, ns, v, d, S, n, rfl, hc, r, hi, k⟩ := h
    obtain ⟨dx, dd, kvs, hp, hd, hk⟩ := id hc.ex
    refine ⟨_, (pss_cons (ps_if (pt_cmpR (L2.Vy.op_notInO Gcon (hr.mono (by decide)) T4.own bcon pass0) (pv 1) (pv 0) (by rfl)) (pss_one (ps_raise rfl (takes_of rfl rfl rfl rfl) (pmk_oex T4.nc.ox T4.iN T4.tN GN (hr.mono (by decide)) bN .nil pass0 rfl T4.gN (pa_cons (pv 1) pa_nil)))) pss_nil) pss_never), ?_⟩
    refine ⟨_, rfl, _, rfl, p, dx, _, rfl, hp, p, ns, v, d, S, n, rfl, hc, r, _, rfl, _, rfl, ?_⟩
    rw [hi]
    refine iteT ?_
    exact ⟨_, rfl, up_go fun d' H' e g => k d' H' e g⟩
end
end L2.E2

namespace L2.E2
open PySem PySem.Spec PyProof.Rows L2.Vx
abbrev sLTold : Stmt := top 25
abbrev nLT : List Str := ["_law_thing", "_law_one"]
theorem nd_count : ∀ l : List Str, (∀ k ∈ l, l.countP (· == k) = 1) ↔ l.Nodup
  | [] => by simp
  | a :: r => by
    have ih := nd_count r
    rw [List.nodup_cons]
    constructor
    · intro h
      have ha := h a List.mem_cons_self
      rw [List.countP_cons] at ha
      have h0 : r.countP (· == a) = 0 := by
        simp at ha
        simpa using ha
      have na : a ∉ r := fun hm => by
        have := List.countP_eq_zero.mp h0 a hm
        simp at this
      refine ⟨na, ih.mp fun k hk => ?_⟩
      have hk1 := h k (List.mem_cons_of_mem _ hk)
      rw [List.countP_cons] at hk1
      have : (a == k) = false := by simpa using fun e : a = k => na (e ▸ hk)
      rw [this] at hk1
      simpa using hk1
    · rintro ⟨na, nr⟩ k hk
      rw [List.countP_cons]
      rcases List.mem_cons.mp hk with e | hk
      · subst e
        have : r.countP (· == k) = 0 := List.countP_eq_zero.mpr fun b hb e => na (by
          have : b = k := by simpa using e
          exact this ▸ hb)
        rw [this]; simp
      · have : (a == k) = false := by simpa using fun e : a = k => na (e ▸ hk)
        rw [this, ih.mpr nr k hk]
        rfl
theorem all_count (l : List Str) : (l.map fun k => decide (l.countP (· == k) = 1)).all id = decide l.Nodup := by
  rw [List.all_map]
  by_cases h : l.Nodup
  · rw [decide_eq_true h]
    exact List.all_eq_true.mpr fun k hk => decide_eq_true ((nd_count l).mpr h k hk)
  · rw [decide_eq_false h]
    refine Bool.eq_false_iff.mpr fun z => h ((nd_count l).mp fun k hk => of_decide_eq_true (List.all_eq_true.mp z k hk))
theorem mono_ix {K : PySem.W.Frag} {i : Nat} {j : Int} : ∀ (σ : St) (H : Hp) (Q Q' : VK), (∀ v H1, Q v H1 → Q' v H1) → tOp (rIx K) (tVar i) (tC (.int j)) σ H Q → tOp (rIx K) (tVar i) (tC (.int j)) σ H Q' := fun σ H Q Q' k ⟨v, h, q⟩ => ⟨v, h, by
  rcases q with ⟨p, xs, a, b, z1, z2, z3, z4, z5⟩ | ⟨p, xs, a, b, z1, z2, z3, z4, z5⟩ | ⟨z, a, b, z1, z2, z3, z4, z5⟩
  · exact .inl ⟨p, xs, a, b, z1, z2, z3, z4, k _ _ z5⟩
  · exact .inr (.inl ⟨p, xs, a, b, z1, z2, z3, z4, k _ _ z5⟩)
  · exact .inr (.inr ⟨z, a, b, z1, z2, z3, z4, k _ _ z5⟩)⟩
def tCnt (K : PySem.W.Frag) : TE := tOp rEq (tBM K "list" (L2.Vy.rCntS K) (tCB (fun xs H Q => ∃ p ys, xs = [V.ref p] ∧ (SqL K H p ys ∨ SqT K H p ys) ∧ ∀ l, H l = none → Q (V.ref l) (upd H l (.lst ys))) (tCons (tOp (rIx K) (tVar 0) (tC (.int 1))) tNil)) (tCons (tVar 1) tNil)) (tC (.int 1))
theorem pe_cnt {X : Cx} {e x : Expr} {te tx : TE} {p1 p2 : Pos} (he : PE X e te) (hx : PE X x tx) (hb : attributeBase e "count" X.env (eval e X.env) = eval e X.env := by rfl) (hl : (p1.endLine == p2.line) = true := by rfl)
    (hs : starEach [x] X.env = (false, eval x X.env) :: starEach [] X.env := by rfl)
    (hf : ((backTo p2 (starEach (x :: []) X.env)).all (fun x => !x.1) && (backToKw p2 (keywordEach [] X.env)).all (fun x => x.1.isSome) && decide ((x :: []).length + ([] : List Keyword).length + (if ([] : List Keyword).isEmpty then 0 else 1) < 30)) = true := by rfl)
    (hpl : (backTo p2 (starEach [] X.env)).any (·.1) = false := by rfl) : PE X (.Call (.Attribute e "count" p1) [x] [] p2) (tBM X.K "list" (L2.Vy.rCntS X.K) te (tCons tx tNil)) :=
  pe_bm PySem.F.plainAttrs_list PySem.F.slot_list_count PySem.F.type_list_count L2.Vy.mt_scount he (pa_cons hx pa_nil hs) hb hf hl hs hpl
section
variable {P : Program} {w : World} {K : PySem.W.Frag} {mg : Str → Option Value} {base : Heap}
theorem scLT : FnScope nLT ["_law_thing"] (defScope sLTold) := ⟨rfl, rfl, rfl, by decide +kernel, rfl, by decide +kernel, by decide +kernel⟩
theorem ok_ltold {f flW : Addr} {fd dlW : FuncData} (F : Fun K "_law_is_told" "_law_is_told" sLTold f fd) (T : TxW mg) (m_lW : mg "_law_is_word" = some (.ref flW)) (k_lW : PySem.W.keepIn K (.ref flW) = true)
    (GlW : FnOk P w K mg base CX0 1 flW dlW ["_law_thing"] spIsW) (blW : Binds K dlW ["_law_thing"] []) : FnOk P w K mg base CX0 2 f fd ["_law_thing"] (spD isTold) := by
  refine F.ok scLT (fun vs H Q E h => ?_) (fun cdv A outer s H vs Q E hr h => ?_)
  · obtain ⟨v, d, S, n, rfl, _⟩ := h
    rfl
  · obtain ⟨v, d, S, n, rfl, r, k⟩ := h
    by_cases hs : ∃ b ds, d = .seq b ds
    · obtain ⟨b, ds, rfl⟩ := hs
      cases n with
      | zero => exact r.elim
      | succ n =>
        obtain ⟨a, us, rfl, ns, ha, hl, hp⟩ := r
        have hlen : us.length = ds.length := Paired.length hp
        refine ⟨_, (pss_cons (ps_if (PW.pt (pw_or (pt_not (pt_val (pe_callB call_isiT (by rfl) T.z_isinstance (by decide +kernel) (pa_cons (pv 0) (pa_cons (pe_tup (pa_cons (pe_bltn (v := .ty "list") (by rfl) T.z_list (by decide +kernel) rfl) (pa_cons (pe_bltn (v := .ty "tuple") (by rfl) T.z_tuple (by decide +kernel) rfl) pa_nil))) pa_nil))))) (pw_or1 (pt_cmpR op_ne (pe_callB call_len_seq (by rfl) T.z_len (by decide +kernel) (pa_cons (pv 0) pa_nil)) pe_int (nomark _))))) (pss_one (ps_ret pe_bl)) pss_nil) (pss_cons (ps_if (PW.pt (pw_or (pt_not (pt_val (pe_call GlW (hr.mono (by decide)) rfl m_lW k_lW blW .nil pass0 (pa_cons (pe_ix ix_seq (pv 0) pe_int (fun _ _ => rfl)) pa_nil)))) (pw_or (pt_cmpR op_eq (pe_ix ix_seq (pv 0) pe_int (fun _ _ => rfl)) pe_str (nomark _)) (pw_or1 (pt_not (pt_val (pe_callB call_isiT (by rfl) T.z_isinstance (by decide +kernel) (pa_cons (pe_ix ix_seq (pv 0) pe_int (fun _ _ => rfl)) (pa_cons (pe_tup (pa_cons (pe_bltn (v := .ty "list") (by rfl) T.z_list (by decide +kernel) rfl) (pa_cons (pe_bltn (v := .ty "tuple") (by rfl) T.z_tuple (by decide +kernel) rfl) pa_nil))) pa_nil))))))))) (pss_one (ps_ret pe_bl)) pss_nil) (pss_cons (ps_if (PW.pt (pw_or (pt_cmpR op_lt (pe_callB call_len_seq (by rfl) T.z_len (by decide +kernel) (pa_cons (pe_ix ix_seq (pv 0) pe_int (fun _ _ => rfl)) pa_nil)) pe_int (nomark _)) (pw_or (pt_cmpR op_gt (pe_callB call_len_seq (by rfl) T.z_len (by decide +kernel) (pa_cons (pe_ix ix_seq (pv 0) pe_int (fun _ _ => rfl)) pa_nil)) pe_int (nomark _)) (pw_or1 (pt_not (pt_val (pe_callB (cr_all rfl) (by rfl) T.z_all (by decide +kernel) (pa_cons (pe_lc (own := [("_law_one", 1)]) (g := gName 1) (tt := tYes) rfl scLT.nd (PI.or (pi_list (pe_ix ix_seq (pv 0) pe_int (fun _ _ => rfl))) (pi_tup (pe_ix ix_seq (pv 0) pe_int (fun _ _ => rfl)))) (blkOk_by (N := nLT) (sc := defScope sLTold) (by decide +kernel)) (fun _ _ _ _ _ => pg_name (i := 1) scLT.nd rfl (Or.inl rfl)) (fun _ _ _ _ _ => pts_nil) (fun _ _ _ _ _ => (pe_call GlW (hr.mono (by decide)) rfl m_lW k_lW blW .nil pass0 (pa_cons (pv 1) pa_nil)))) pa_nil)))))))) (pss_one (ps_ret pe_bl)) pss_nil) (pss_one (ps_ret (pe_callB (cr_all rfl) (by rfl) T.z_all (by decide +kernel) (pa_cons (pe_lc (own := [("_law_one", 1)]) (g := gName 1) (tt := tYes) (te := tCnt K) rfl scLT.nd (PI.or (pi_list (pe_ix ix_seq (pv 0) pe_int (fun _ _ => rfl))) (pi_tup (pe_ix ix_seq (pv 0) pe_int (fun _ _ => rfl)))) (blkOk_by (N := nLT) (sc := defScope sLTold) (by decide +kernel)) (fun _ _ _ _ _ => pg_name (i := 1) scLT.nd rfl (Or.inl rfl)) (fun _ _ _ _ _ => pts_nil) (fun _ _ _ _ _ => (by exact (pe_cmpR op_eq (pe_cnt (pe_callTy call_list_of (by rfl) T.z_list (by decide +kernel) (pa_cons (pe_ix ix_seq (pv 0) pe_int (fun _ _ => rfl)) pa_nil)) (pv 1)) pe_int (nomark _))))) pa_nil))))))), ?_⟩
        refine ⟨_, rfl, (by show 2 ≤ sizeLine; decide), fun p np => ?_⟩
        have e1 := same_new (o := .tup [.ty "list", .ty "tuple"]) np
        obtain ⟨t, ty, kt, _⟩ := seq_ty (K := K) (e1 _ _ ha)
        refine ⟨_, p, [.ty "list", .ty "tuple"], _, _, true, rfl, upd_same, .cons (.ty _) (.cons (.ty _) .nil), ty, kt, _, rfl, ?_⟩
        generalize upd H p (.tup [.ty "list", .ty "tuple"]) = H1 at e1
        have ha1 := e1 _ _ ha
        refine iteF ?_
        refine ⟨_, rfl, a, us, rfl, SqV.sq ha1, rfl, _, rfl, ?_⟩
        by_cases h2 : us.length = 2
        · rw [decide_eq_true (show V.int (us.length : Int) = V.int 2 by rw [h2]; rfl)]
          refine iteF ?_
          obtain ⟨u1, u2, rfl⟩ : ∃ u1 u2, us = [u1, u2] := by
            match us, h2 with
            | [u1, u2], _ => exact ⟨u1, u2, rfl⟩
          cases hp with
          | @cons _ d1 _ _ r1 t1 =>
            cases t1 with
            | @cons _ d2 _ _ r2 t2 =>
              cases t2
              have ek : isTold (.seq b [d1, d2]) = (isName d1 && areValues d2) := rfl
              rw [ek] at k
              refine ⟨_, rfl, ?_⟩
              refine ix_go (K := K) (i := 0) (v := u1) (SqV.sq ha1) rfl ?_
              refine ⟨u1, d1, S, n, rfl, r1.kp (Kp.of e1), fun H2 e2 => ⟨_, rfl, ?_⟩⟩
              have e12 := e1.trans e2
              have ha2 := e12 _ _ ha
              by_cases hw : isWord d1 = true
              · rw [hw]
                refine iteF ?_
                have ed := word_str hw
                have en : isName d1 = !decide (strOf d1 = "number") := by unfold isName; rw [hw]; rfl
                cases n with
                | zero => exact r1.elim
                | succ n =>
                  have r1' := r1
                  rw [ed] at r1'
                  obtain ⟨rfl, _⟩ := r1'
                  refine ⟨_, rfl, ?_⟩
                  refine ix_go (K := K) (i := 0) (SqV.sq ha2) rfl ?_
                  refine ⟨rfl, _, rfl, ?_⟩
                  have e3 : decide (V.str (strOf d1) = V.str "number") = decide (strOf d1 = "number") := decide_eq_decide.mpr ⟨fun z => by injection z, fun z => by rw [z]⟩
                  rw [e3]
                  by_cases hnum : strOf d1 = "number"
                  · rw [decide_eq_true hnum]
                    refine iteT ?_
                    refine iteT ?_
                    rw [en, decide_eq_true hnum] at k
                    exact k H2 e12
                  · rw [decide_eq_false hnum]
                    refine iteF ?_
                    rw [en, decide_eq_false hnum] at k
                    -- the values
                    refine ⟨_, rfl, ?_⟩
                    refine ix_go (K := K) (i := 1) (v := u2) (SqV.sq ha2) rfl ?_
                    refine ⟨by show 2 ≤ sizeLine; decide, fun p2 np2 => ?_⟩
                    have e4 := same_new (o := .tup [.ty "list", .ty "tuple"]) np2
                    by_cases hs2 : ∃ b2 zs, d2 = .seq b2 zs
                    · obtain ⟨b2, zs, rfl⟩ := hs2
                      obtain ⟨a2, ws, rfl, _, hb, hlb, hpb⟩ := r2
                      have hlen2 : ws.length = zs.length := Paired.length hpb
                      have hb4 := e4 _ _ (e12 _ _ hb)
                      have ha4 := e4 _ _ ha2
                      have e14 := e12.trans e4
                      obtain ⟨t, ty, kt, _⟩ := seq_ty (K := K) hb4
                      refine ⟨_, p2, [.ty "list", .ty "tuple"], _, _, true, rfl, upd_same, .cons (.ty _) (.cons (.ty _) .nil), ty, kt, _, rfl, ?_⟩
                      generalize upd H2 p2 (.tup [.ty "list", .ty "tuple"]) = H4 at e4 hb4 ha4 e14
                      refine iteF ?_
                      refine ⟨_, rfl, ?_⟩
                      refine ix_go (K := K) (i := 1) (SqV.sq ha4) rfl ?_
                      refine ⟨a2, ws, rfl, SqV.sq hb4, _, _, rfl, rfl, _, rfl, ?_⟩
                      have bad : ¬ (1 ≤ zs.length ∧ zs.length ≤ 3) → areValues (.seq b2 zs) = false := fun z => by
                        show (decide (1 ≤ zs.length ∧ zs.length ≤ 3) && _) = _
                        rw [decide_eq_false z]; rfl
                      by_cases c1 : (ws.length : Int) < 1
                      · rw [decide_eq_true c1]
                        refine iteT ?_
                        refine iteT ?_
                        rw [bad (by omega)] at k
                        exact k H4 e14
                      · rw [decide_eq_false c1]
                        refine iteF ?_
                        refine ⟨_, rfl, ?_⟩
                        refine ix_go (K := K) (i := 1) (SqV.sq ha4) rfl ?_
                        refine ⟨a2, ws, rfl, SqV.sq hb4, _, _, rfl, rfl, _, rfl, ?_⟩
                        by_cases c2 : 3 < (ws.length : Int)
                        · rw [decide_eq_true c2]
                          refine iteT ?_
                          refine iteT ?_
                          rw [bad (by omega)] at k
                          exact k H4 e14
                        · rw [decide_eq_false c2]
                          refine iteF ?_
                          have h12 : 1 ≤ zs.length ∧ zs.length ≤ 3 := by omega
                          have ea : areValues (.seq b2 zs) = (zs.all isWord && decide (zs.map strOf).Nodup) := by
                            show (decide (1 ≤ zs.length ∧ zs.length ≤ 3) && _) = _
                            rw [decide_eq_true h12]; rfl
                          rw [ea] at k
                          obtain ⟨J, wk, hJ⟩ := seq_it (K := K) (b := b2) (a := a2) (us := ws)
                          refine hJ (tOp (rIx K) (tVar 0) (tC (.int 1))) _ _ _ ⟨_, rfl, ix_go (K := K) (i := 1) (SqV.sq ha4) rfl ⟨rfl, hb4, fun D nD => ?_⟩⟩ mono_ix
                          refine lc_it wk (fun i H5 => H5 D = some (.lst (((zs.take i).map isWord).map V.bl)) ∧ Same H4 H5) ⟨upd_same, same_new nD⟩ (fun i H5 _ z => z.2 _ _ hb4) ?_ ?_
                          · rintro i y H5 H5' hi ⟨hD, e5⟩ ⟨rfl, hy⟩
                            refine ⟨rfl, ?_⟩
                            unfold tYes
                            refine iteT ?_
                            have hd := List.getElem?_eq_getElem (l := zs) (i := i) (by omega)
                            have ry : Rep H n S y (zs[i]'(by omega)) := by
                              obtain ⟨d', q1, q2⟩ := Paired.get hpb hy
                              rw [hd] at q1
                              cases q1
                              exact q2
                            refine ⟨_, rfl, y, _, S, n, rfl, ry.kp (Kp.of (e14.trans e5)), fun H6 e6 => ⟨_, e6 _ _ hD, ?_, ?_, fun c o z => ?_⟩⟩
                            · rw [List.length_map, List.length_map, List.length_take]
                              exact Nat.lt_of_le_of_lt (by omega : _ ≤ 60) (by decide)
                            · rw [upd_same, take_more1 hd, List.map_append, List.map_append]
                              rfl
                            · rw [upd_ne (ne_of_none z nD)]
                              exact e6 _ _ (e5 _ _ z)
                          · rintro H5 ⟨hD, e5⟩
                            rw [hlen2, List.take_length] at hD
                            refine ⟨D, _, rfl, SqL.of hD, _, rfl, ?_⟩
                            rw [List.all_map, show (id ∘ isWord) = isWord from rfl]
                            have e15 := e14.trans e5
                            by_cases hw2 : zs.all isWord = true
                            · rw [hw2] at k ⊢
                              refine iteF ?_
                              have eu := words_strs hpb hw2
                              have hb5 := e5 _ _ hb4
                              have ha5 := e5 _ _ ha4
                              obtain ⟨J2, wk2, hJ2⟩ := seq_it (K := K) (b := b2) (a := a2) (us := ws)
                              refine hJ2 (tOp (rIx K) (tVar 0) (tC (.int 1))) _ _ _ ⟨_, rfl, ix_go (K := K) (i := 1) (SqV.sq ha5) rfl ⟨rfl, hb5, fun D2 nD2 => ?_⟩⟩ mono_ix
                              refine lc_it wk2 (fun i H6 => H6 D2 = some (.lst ((((zs.map strOf).take i).map fun k => decide ((zs.map strOf).countP (· == k) = 1)).map V.bl)) ∧ Same H5 H6) ⟨upd_same, same_new nD2⟩ (fun i H6 _ z => z.2 _ _ hb5) ?_ ?_
                              · rintro i y H6 H6' hi ⟨hD2, e6⟩ ⟨rfl, hy⟩
                                refine ⟨rfl, ?_⟩
                                unfold tYes
                                refine iteT ?_
                                have hi2 : i < (zs.map strOf).length := by rw [List.length_map]; omega
                                have hd := List.getElem?_eq_getElem hi2
                                obtain rfl : y = V.str ((zs.map strOf)[i]) := by
                                  rw [eu, List.getElem?_map, hd] at hy
                                  exact (Option.some.inj hy).symm
                                refine ⟨_, rfl, ix_go (K := K) (i := 1) (SqV.sq (e6 _ _ ha5)) rfl ?_⟩
                                refine ⟨a2, ws, rfl, SqV.sq (e6 _ _ hb5), fun l nl => ?_⟩
                                have e7 := same_new (o := .lst ws) nl
                                refine ⟨.inl ⟨rfl, _, SqL.of upd_same⟩, _, rfl, l, zs.map strOf, _, rfl, rfl, SqL.of (by rw [upd_same, eu]), rfl, ⟨_, e7 _ _ hD2, ?_, ?_, fun c o z => ?_⟩⟩
                                · rw [List.length_map, List.length_map, List.length_take, List.length_map]
                                  exact Nat.lt_of_le_of_lt (by omega : _ ≤ 60) (by decide)
                                · rw [upd_same, take_more1 hd, List.map_append, List.map_append]
                                  have e8 : decide (V.int (((zs.map strOf).countP (· == (zs.map strOf)[i]) : Nat) : Int) = V.int 1) = decide ((zs.map strOf).countP (· == (zs.map strOf)[i]) = 1) :=
                                    decide_eq_decide.mpr ⟨fun z => by injection z with z; omega, fun z => by rw [z]; rfl⟩
                                  rw [e8]
                                  rfl
                                · rw [upd_ne (ne_of_none z nD2)]
                                  exact e7 _ _ (e6 _ _ z)
                              · rintro H6 ⟨hD2, e6⟩
                                rw [show ws.length = (zs.map strOf).length by rw [List.length_map]; exact hlen2, List.take_length] at hD2
                                refine ⟨D2, _, rfl, SqL.of hD2, ?_⟩
                                rw [all_count]
                                exact k H6 (e15.trans e6)
                            · have hw2' : zs.all isWord = false := by simpa using hw2
                              rw [hw2'] at k ⊢
                              refine iteT ?_
                              exact k H5 e15
                    · obtain ⟨t, ty, kt⟩ := notSeq (K := K) hs2 r2
                      refine ⟨_, p2, [.ty "list", .ty "tuple"], _, _, false, rfl, upd_same, .cons (.ty _) (.cons (.ty _) .nil), ty _ (e12.trans e4), kt, _, rfl, ?_⟩
                      refine iteT ?_
                      have ea : areValues d2 = false := by
                        cases d2 with
                        | seq b2 zs => exact absurd ⟨_, _, rfl⟩ hs2
                        | _ => rfl
                      rw [ea] at k
                      exact k _ (e12.trans e4)
              · have hw' : isWord d1 = false := by simpa using hw
                have en : isName d1 = false := by unfold isName; rw [hw']; rfl
                rw [hw']
                rw [en] at k
                refine iteT ?_
                refine iteT ?_
                exact k H2 e12
        · rw [decide_eq_false (show ¬ V.int (us.length : Int) = V.int 2 by intro z; injection z with z; omega)]
          refine iteT ?_
          have ek : isTold (.seq b ds) = false := by
            match ds, hlen with
            | [], _ => rfl
            | [_], _ => rfl
            | [_, _], z => exact absurd z h2
            | _ :: _ :: _ :: _, _ => rfl
          rw [ek] at k
          exact k H1 e1
    · refine ⟨_, (pss_cons (ps_if (PW.pt (pw_or (pt_not (pt_val (pe_callB call_isiT (by rfl) T.z_isinstance (by decide +kernel) (pa_cons (pv 0) (pa_cons (pe_tup (pa_cons (pe_bltn (v := .ty "list") (by rfl) T.z_list (by decide +kernel) rfl) (pa_cons (pe_bltn (v := .ty "tuple") (by rfl) T.z_tuple (by decide +kernel) rfl) pa_nil))) pa_nil))))) (pw_or1 pt_no))) (pss_one (ps_ret pe_bl)) pss_nil) pss_never), ?_⟩
      have e : isTold d = false := by
        cases d with
        | seq b ds => exact absurd ⟨_, _, rfl⟩ hs
        | _ => rfl
      rw [e] at k
      obtain ⟨t, ty, kt⟩ := notSeq (K := K) hs r
      refine ⟨_, rfl, (by show 2 ≤ sizeLine; decide), fun p np => ?_⟩
      have e1 := same_new (o := .tup [.ty "list", .ty "tuple"]) np
      refine ⟨_, p, [.ty "list", .ty "tuple"], _, _, false, rfl, upd_same, .cons (.ty _) (.cons (.ty _) .nil), ty _ e1, kt, _, rfl, ?_⟩
      refine iteT ?_
      refine iteT ?_
      exact k _ e1
end
end L2.E2

namespace L2.E2
open PySem PySem.Spec PyProof.Rows L2.Vx
abbrev sFW : Stmt := top 26
abbrev nFW : List Str := ["_law_told", "_law_free", "_law_names", "_law_at", "_law_thing", "_law_wrong"]
theorem lets_ok : lets.all (fun c => decide (c < 1114112)) = true := by decide +kernel
theorem word_ok {x : Str} (h : isWordS x = true) : PyData.strOk x = true := by
  unfold isWordS at h
  rw [Bool.and_eq_true] at h
  have h2 := List.all_eq_true.mp h.2
  have h3 := List.all_eq_true.mp lets_ok
  show x.cps.all _ = true
  rw [← Array.all_toList]
  exact List.all_eq_true.mpr fun c hc => h3 c (of_decide_eq_true (h2 c hc))
theorem lay_strs : ∀ ns : List Str, (∀ x ∈ ns, PyData.strOk x = true) → PyData.canLayAll0 (ns.map PyData.str) = true
  | [], _ => rfl
  | x :: r, h => by
    have h1 := h x List.mem_cons_self
    have h2 := lay_strs r fun y hy => h y (List.mem_cons_of_mem _ hy)
    simp [PyData.canLayAll0, PyData.canLay0, h1, h2]
theorem dep_strs : ∀ ns : List Str, PyData.depthAll (ns.map PyData.str) = 0
  | [] => rfl
  | x :: r => by simp [PyData.depthAll, PyData.depth, dep_strs r]
theorem shaped_strs {ns : List Str} (h : ∀ x ∈ ns, PyData.strOk x = true) : SeqAt.shaped (.list (ns.map PyData.str)) = true := by
  simp [SeqAt.shaped, PyData.canLay0, PyData.depth, lay_strs ns h, dep_strs]
theorem dp_strs {K : PySem.W.Frag} {H : Hp} : ∀ ns : List Str, DpAll K H (ns.map V.str) (ns.map PyData.str)
  | [] => .nil
  | x :: r => .cons (.str x) (dp_strs r)
theorem eqv_strs (ns : List Str) : PyData.eqv (.list (ns.map PyData.str)) (.list []) = decide (ns = []) := by
  cases ns with
  | nil => rfl
  | cons x r => rfl
theorem in_strs (x : Str) : ∀ ns : List Str, inV (.str x) (ns.map V.str) = decide (x ∈ ns)
  | [] => by simp [inV]
  | y :: r => by
    have ih := in_strs x r
    unfold inV at ih ⊢
    rw [List.map_cons, List.any_cons, ih]
    show ((y == x) || decide (x ∈ r)) = decide (x ∈ y :: r)
    by_cases e : y = x
    · subst e; simp
    · have e' : (y == x) = false := by simpa using e
      rw [e', Bool.false_or]
      refine decide_eq_decide.mpr ⟨fun z => List.mem_cons_of_mem _ z, fun z => ?_⟩
      rcases List.mem_cons.mp z with z | z
      · exact absurd z.symm e
      · exact z
theorem flat_strs (ns : List Str) : (ns.map V.str).all flatV = true := by
  rw [List.all_map]
  exact List.all_eq_true.mpr fun _ _ => rfl
abbrev resW : Nat ⊕ List Str → V
  | .inl i => .int (i : Int)
  | .inr _ => .non
def spFW : Sp := fun vs H Q _ => ∃ (vt vf : V) (S : Addr → Prop) (n : Nat) (bt bf : Bool) (us ws : List V) (ds es : List D) (pt pf : Addr), vs = [vt, vf] ∧ Two H S n vt vf bt bf us ws ds es pt pf ∧
  ∀ H', Same H H' → Q (resW (firstW ds es)) H'
section
variable {P : Program} {w : World} {K : PySem.W.Frag} {mg : Str → Option Value} {base : Heap}
theorem scFW : FnScope nFW ["_law_told", "_law_free"] (defScope sFW) := ⟨rfl, rfl, rfl, by decide +kernel, rfl, by decide +kernel, by decide +kernel⟩
theorem ok_fw {f flW flT : Addr} {fd dlW dlT : FuncData} (F : Fun K "_law_first_wrong" "_law_first_wrong" sFW f fd) (T : TxW mg) (m_lW : mg "_law_is_word" = some (.ref flW)) (k_lW : PySem.W.keepIn K (.ref flW) = true) (m_lT : mg "_law_is_told" = some (.ref flT)) (k_lT : PySem.W.keepIn K (.ref flT) = true)
    (z_enumerate : mg "enumerate" = none)
    (GlW : FnOk P w K mg base CX0 1 flW dlW ["_law_thing"] spIsW) (blW : Binds K dlW ["_law_thing"] []) (GlT : FnOk P w K mg base CX0 2 flT dlT ["_law_thing"] (spD isTold)) (blT : Binds K dlT ["_law_thing"] []) : FnOk P w K mg base CX0 3 f fd ["_law_told", "_law_free"] spFW := by
  refine F.ok scFW (fun vs H Q E h => ?_) (fun cdv A outer s H vs Q E hr h => ?_)
  · obtain ⟨vt, vf, S, n, bt, bf, us, ws, ds, es, pt, pf, rfl, _⟩ := h
    rfl
  · obtain ⟨vt, vf, S, n, bt, bf, us, ws, ds, es, pt, pf, rfl, W2, kQ⟩ := h
    obtain ⟨rfl, rfl, ht, hf, lt, lf, rt, rf⟩ := W2
    refine ⟨_, (pss_cons (ps_set (i := 2) scFW.nd rfl (Or.inl rfl) (pe_lst pa_nil)) (C8.pss_cut (ps_for PassesOwn.never rfl (PI.or (pi_enum (by rfl) z_enumerate (pa_cons (pv 0) pa_nil)) (L2.Vy.pi_enT (by rfl) z_enumerate (pa_cons (pv 0) pa_nil))) (pg_tup rfl (pgs_cons (pg_name (i := 3) scFW.nd rfl (Or.inl rfl)) (pgs_cons (pg_name (i := 4) scFW.nd rfl (Or.inl rfl)) pgs_nil))) (pss_cons (ps_if (PW.pt (pw_or (pt_cmpR op_eq (pv 3) pe_int (nomark _)) (pw_or (pt_not (pt_val (pe_call GlT (hr.mono (by decide)) rfl m_lT k_lT blT .nil pass0 (pa_cons (pv 4) pa_nil)))) (pw_or1 (pt_cmpR op_in_seq (pe_ix ix_seq (pv 4) pe_int (fun _ _ => rfl)) (pv 2) rfl))))) (pss_one (ps_ret (pv 3))) pss_nil) (pss_one (ps_expr (pe_bm PySem.F.plainAttrs_list PySem.F.slot_list_append PySem.F.type_list_append mt_append (pv 2) (pa_cons (pe_ix ix_seq (pv 4) pe_int (fun _ _ => rfl)) pa_nil)))))) (C8.pss_cut (ps_for PassesOwn.never rfl (PI.or (pi_enum (by rfl) z_enumerate (pa_cons (pv 1) pa_nil)) (L2.Vy.pi_enT (by rfl) z_enumerate (pa_cons (pv 1) pa_nil))) (pg_tup rfl (pgs_cons (pg_name (i := 3) scFW.nd rfl (Or.inl rfl)) (pgs_cons (pg_name (i := 4) scFW.nd rfl (Or.inl rfl)) pgs_nil))) (pss_cons (ps_set (i := 5) scFW.nd rfl (Or.inl rfl) (pe_or (pe_cmpR op_eq (pv 3) pe_int (nomark _)) (pe_or (pe_cmpR op_eq (pe_callB call_len_seq (by rfl) T.z_len (by decide +kernel) (pa_cons (pv 2) pa_nil)) pe_int (nomark _)) (pe_or (pe_not (pe_call GlW (hr.mono (by decide)) rfl m_lW k_lW blW .nil pass0 (pa_cons (pv 4) pa_nil))) (pe_one (pe_cmpR op_eq (pv 4) pe_str (nomark _))))))) (pss_cons (ps_if (PW.pt (pw_or (pt_val (pv 5)) (pw_or1 (pt_cmpR op_in_seq (pv 4) (pv 2) rfl)))) (pss_one (ps_ret (pe_op op_add (pe_callB call_len_seq (by rfl) T.z_len (by decide +kernel) (pa_cons (pv 0) pa_nil)) (pv 3)))) pss_nil) (pss_one (ps_expr (pe_bm PySem.F.plainAttrs_list PySem.F.slot_list_append PySem.F.type_list_append mt_append (pv 2) (pa_cons (pv 4) pa_nil))))))) (pss_one (ps_ret (pe_ifExp (pt_cmpR (op_eqD hr.units) (pv 2) (pe_lst pa_nil) (nomark _)) pe_int pe_non)))))), ?_⟩
    -- names = []
    refine ⟨by decide, fun d nd => ?_⟩
    have hlu : us.length = ds.length := Paired.length rt
    have hlw : ws.length = es.length := Paired.length rf
    refine ⟨fun σ H3 => ∃ v3 v4 ns, σ = [some (.ref pt), some (.ref pf), some (.ref d), v3, v4, none] ∧ goT [] 0 ds = .inr ns ∧ ns.length = ds.length ∧ H3 d = some (.lst (ns.map V.str)) ∧ (∀ x ∈ ns, PyData.strOk x = true) ∧ Same H H3, ?_, ?_⟩
    · obtain ⟨J, wk, hJ⟩ := enum_it (K := K) (b := bt) (a := pt) (us := us)
      refine hJ _ _ _ _ (fun Q q => ⟨_, rfl, q⟩) (same_new nd _ _ ht) ?_
      refine for_it wk (fun i σ H3 => ∃ v3 v4 ns, σ = [some (.ref pt), some (.ref pf), some (.ref d), v3, v4, none] ∧ goT [] 0 ds = goT ns i (ds.drop i) ∧ ns.length = i ∧ H3 d = some (.lst (ns.map V.str)) ∧ (∀ x ∈ ns, PyData.strOk x = true) ∧ Same H H3)
        ⟨none, none, [], rfl, rfl, rfl, upd_same, (fun _ z => by cases z), same_new nd⟩ (fun i σ H3 _ z => by obtain ⟨_, _, _, _, _, _, _, _, e3⟩ := z; exact e3 _ _ ht) ?_ ?_
      · rintro i x σ H3 H3' hi ⟨v3, v4, ns, rfl, hg, hln, hd, hk, e3⟩ ⟨q, x1, y1, rfl, nq, e, hx1, hy1⟩
        subst e
        obtain rfl : V.int (i : Nat) = x1 := Option.some.inj hx1
        have e4 := same_new (o := .tup [V.int (i : Nat), y1]) nq
        refine ⟨q, _, rfl, SqT.of upd_same, rfl, _, _, rfl, _, _, rfl, rfl, ?_⟩
        have hd4 := e4 _ _ hd
        have e34 := e3.trans e4
        generalize upd H3 q (.tup [V.int (i : Nat), y1]) = H4 at hd4 e34
        obtain ⟨di, hdi, ri⟩ := Paired.get rt hy1
        have hdr : ds.drop i = di :: ds.drop (i + 1) := by
          have hi' : i < ds.length := by omega
          rw [List.drop_eq_getElem_cons hi']
          congr 1
          rw [List.getElem?_eq_getElem hi'] at hdi
          exact Option.some.inj hdi
        rw [hdr] at hg
        have hbad : okT ns i di = false → firstW ds es = .inl i := fun z => by
          unfold firstW
          rw [hg]
          show (match (if okT ns i di = true then goT (ns ++ [nameT di]) (i + 1) (ds.drop (i + 1)) else .inl i) with | .inl i => _ | .inr ns => _) = _
          rw [z]
          rfl
        have bad : okT ns i di = false → ∀ H', Same H H' → Q (V.int (i : Int)) H' := fun z H' e' => by
          have k := kQ H' e'
          rw [hbad z] at k
          exact k
        refine ⟨_, rfl, rfl, _, rfl, ?_⟩
        by_cases h3 : i = 3
        · rw [decide_eq_true (show V.int (i : Int) = V.int 3 by rw [h3]; rfl)]
          refine iteT ?_
          refine iteT ?_
          exact ⟨_, rfl, bad (by unfold okT; rw [decide_eq_true h3]; rfl) _ e34⟩
        · rw [decide_eq_false (show ¬ V.int (i : Int) = V.int 3 by intro z; injection z with z; omega)]
          refine iteF ?_
          refine ⟨_, rfl, y1, di, S, n, rfl, ri.kp (Kp.of e34), fun H5 e5 => ⟨_, rfl, ?_⟩⟩
          have e35 := e34.trans e5
          have hd5 := e5 _ _ hd4
          by_cases hT : isTold di = true
          · rw [hT]
            refine iteF ?_
            obtain ⟨b, dx1, dy1, rfl, hn1, hv1⟩ := told_form hT
            cases n with
            | zero => exact ri.elim
            | succ n =>
              obtain ⟨at1, uu, rfl, _, ha1, _, hp1⟩ := ri.kp (Kp.of e35)
              cases hp1 with
              | @cons u1 _ _ _ r1 t1 =>
                cases t1 with
                | @cons u2 _ _ _ r2 t2 =>
                  cases t2
                  have en := name_str hn1
                  cases n with
                  | zero => exact r1.elim
                  | succ n =>
                    rw [en] at r1
                    obtain ⟨rfl, _⟩ := r1
                    have enm : nameT (.seq b [dx1, dy1]) = strOf dx1 := rfl
                    have hw1 : isWordS (strOf dx1) = true := by
                      unfold isName at hn1
                      rw [Bool.and_eq_true] at hn1
                      have := hn1.1
                      rw [en] at this
                      exact this
                    refine ⟨_, rfl, ?_⟩
                    refine ix_go (K := K) (i := 0) (SqV.sq ha1) rfl ?_
                    refine ⟨_, rfl, d, _, rfl, .inl (SqL.of hd5), rfl, flat_strs ns, _, rfl, ?_⟩
                    rw [show (if (false : Bool) = true then !inV (.str (strOf dx1)) (ns.map V.str) else inV (.str (strOf dx1)) (ns.map V.str)) = decide (strOf dx1 ∈ ns) from in_strs _ _]
                    by_cases hin : strOf dx1 ∈ ns
                    · rw [decide_eq_true hin]
                      refine iteT ?_
                      exact ⟨_, rfl, bad (by unfold okT; rw [enm, decide_eq_true hin, Bool.not_true, Bool.and_false, Bool.and_false]) _ e35⟩
                    · rw [decide_eq_false hin]
                      refine iteF ?_
                      have hb : okT ns i (.seq b [dx1, dy1]) = true := by unfold okT; rw [enm, decide_eq_false hin, decide_eq_false h3, hT]; rfl
                      refine ⟨_, rfl, .inl ⟨rfl, _, SqL.of hd5⟩, _, rfl, ?_⟩
                      refine ix_go (K := K) (i := 0) (SqV.sq ha1) rfl ?_
                      refine ⟨d, _, _, rfl, rfl, hd5, (by rw [List.length_map, hln]; exact Nat.lt_of_le_of_lt (by omega : i ≤ 20) (by decide)), ?_⟩
                      refine ⟨_, _, ns ++ [strOf dx1], rfl, ?_, ?_, ?_, ?_, fun c o z => ?_⟩
                      · rw [hg]
                        show (if okT ns i (.seq b [dx1, _]) = true then goT (ns ++ [strOf dx1]) (i + 1) (ds.drop (i + 1)) else .inl i) = _
                        rw [hb]
                        rfl
                      · rw [List.length_append, hln]; rfl
                      · rw [upd_same, List.map_append]; rfl
                      · intro y hy
                        rcases List.mem_append.mp hy with hy | hy
                        · exact hk y hy
                        · rw [List.mem_singleton.mp hy]; exact word_ok hw1
                      · rw [upd_ne (ne_of_none z nd)]
                        exact e35 _ _ z
          · have hT' : isTold di = false := by simpa using hT
            rw [hT']
            refine iteT ?_
            refine iteT ?_
            exact ⟨_, rfl, bad (by unfold okT; rw [hT', Bool.false_and, Bool.and_false]) _ e35⟩
      · rintro σ H3 ⟨v3, v4, ns, rfl, hg, hln, hd, hk, e3⟩
        rw [hlu, List.drop_length] at hg
        exact ⟨v3, v4, ns, rfl, hg, by omega, hd, hk, e3⟩
    · rintro σ H3 ⟨v3, v4, ns, rfl, hgT, hln, hd, hk, e3⟩
      refine ⟨fun σ H4 => ∃ v3 v4 v5 ns2, σ = [some (.ref pt), some (.ref pf), some (.ref d), v3, v4, v5] ∧ goF ds.length ns 0 es = .inr ns2 ∧ H4 d = some (.lst (ns2.map V.str)) ∧ (∀ x ∈ ns2, PyData.strOk x = true) ∧ Same H H4, ?_, ?_⟩
      · obtain ⟨J, wk, hJ⟩ := enum_it (K := K) (b := bf) (a := pf) (us := ws)
        refine hJ _ _ _ _ (fun Q q => ⟨_, rfl, q⟩) (e3 _ _ hf) ?_
        refine for_it wk (fun j σ H4 => ∃ v3 v4 v5 ns2, σ = [some (.ref pt), some (.ref pf), some (.ref d), v3, v4, v5] ∧ goF ds.length ns 0 es = goF ds.length ns2 j (es.drop j) ∧ ns2.length = ds.length + j ∧ H4 d = some (.lst (ns2.map V.str)) ∧ (∀ x ∈ ns2, PyData.strOk x = true) ∧ Same H H4)
          ⟨v3, v4, none, ns, rfl, rfl, hln, hd, hk, e3⟩ (fun j σ H4 _ z => by obtain ⟨_, _, _, _, _, _, _, _, _, e4⟩ := z; exact e4 _ _ hf) ?_ ?_
        · rintro j x σ H4 H4' hj ⟨v3, v4, v5, ns2, rfl, hg, hln2, hd4, hk4, e4⟩ ⟨q, x1, y1, rfl, nq, e, hx1, hy1⟩
          subst e
          obtain rfl : V.int (j : Nat) = x1 := Option.some.inj hx1
          have e5 := same_new (o := .tup [V.int (j : Nat), y1]) nq
          refine ⟨q, _, rfl, SqT.of upd_same, rfl, _, _, rfl, _, _, rfl, rfl, ?_⟩
          have hd5 := e5 _ _ hd4
          have e35 := e4.trans e5
          generalize upd H4 q (.tup [V.int (j : Nat), y1]) = H5 at hd5 e35
          obtain ⟨dj, hdj, rj⟩ := Paired.get rf hy1
          have hdr : es.drop j = dj :: es.drop (j + 1) := by
            have hj' : j < es.length := by omega
            rw [List.drop_eq_getElem_cons hj']
            congr 1
            rw [List.getElem?_eq_getElem hj'] at hdj
            exact Option.some.inj hdj
          rw [hdr] at hg
          have hbad : okF ds.length ns2 j dj = false → firstW ds es = .inl (ds.length + j) := fun z => by
            unfold firstW
            rw [hgT]
            show (match goF ds.length ns 0 es with | .inl i => _ | .inr ns2 => _) = _
            rw [hg]
            show (match (if okF ds.length ns2 j dj = true then goF ds.length (ns2 ++ [strOf dj]) (j + 1) (es.drop (j + 1)) else .inl (ds.length + j)) with | .inl i => _ | .inr ns => _) = _
            rw [z]
            rfl
          have ev : V.int ((us.length : Int) + (j : Int)) = V.int ((ds.length + j : Nat) : Int) := by rw [hlu, Int.natCast_add]
          have bad : okF ds.length ns2 j dj = false → ∀ H', Same H H' → Q (V.int ((us.length : Int) + (j : Int))) H' := fun z H' e' => by
            have k := kQ H' e'
            rw [hbad z] at k
            rw [ev]
            exact k
          -- wrong = at == 2 or len(names) == 3 or not is_word(thing) or thing == "number"
          refine ⟨_, rfl, rfl, _, rfl, ?_⟩
          by_cases h2 : j = 2
          · rw [decide_eq_true (show V.int (j : Int) = V.int 2 by rw [h2]; rfl)]
            refine iteT ?_
            refine ⟨_, rfl, _, rfl, ?_⟩
            refine iteT ?_
            refine iteT ?_
            exact ⟨_, rfl, pt, us, rfl, SqV.sq (e35 _ _ ht), _, rfl, _, _, rfl, rfl, bad (by unfold okF; rw [decide_eq_true h2, Bool.not_true, Bool.false_and, Bool.and_false]) _ e35⟩
          · rw [decide_eq_false (show ¬ V.int (j : Int) = V.int 2 by intro z; injection z with z; omega)]
            refine iteF ?_
            refine ⟨_, rfl, d, _, rfl, .inl (SqL.of hd5), rfl, _, rfl, ?_⟩
            by_cases h3 : ds.length + j = 3
            · rw [decide_eq_true (show V.int ((ns2.map V.str).length : Int) = V.int 3 by rw [List.length_map, hln2, h3]; rfl)]
              refine iteT ?_
              refine ⟨_, rfl, _, rfl, ?_⟩
              refine iteT ?_
              refine iteT ?_
              exact ⟨_, rfl, pt, us, rfl, SqV.sq (e35 _ _ ht), _, rfl, _, _, rfl, rfl, bad (by unfold okF; rw [decide_eq_true h3]; rfl) _ e35⟩
            · rw [decide_eq_false (show ¬ V.int ((ns2.map V.str).length : Int) = V.int 3 by rw [List.length_map, hln2]; intro z; injection z with z; omega)]
              refine iteF ?_
              refine ⟨_, rfl, y1, dj, S, n, rfl, rj.kp (Kp.of e35), fun H6 e6 => ⟨_, rfl, _, rfl, ?_⟩⟩
              have e36 := e35.trans e6
              have hd6 := e6 _ _ hd5
              by_cases hW : isWord dj = true
              · rw [hW]
                refine iteF ?_
                have en := word_str hW
                cases n with
                | zero => exact rj.elim
                | succ n =>
                  have rj2 := rj
                  rw [en] at rj2
                  obtain ⟨rfl, _⟩ := rj2
                  refine ⟨_, rfl, rfl, ?_⟩
                  have e2 : decide (V.str (strOf dj) = V.str "number") = decide (strOf dj = "number") := decide_eq_decide.mpr ⟨fun z => by injection z, fun z => by rw [z]⟩
                  rw [e2]
                  have eN : isName dj = !decide (strOf dj = "number") := by unfold isName; rw [hW]; rfl
                  refine ⟨_, rfl, _, rfl, ?_⟩
                  by_cases hnum : strOf dj = "number"
                  · rw [decide_eq_true hnum]
                    rw [decide_eq_true hnum] at eN
                    refine iteT ?_
                    refine iteT ?_
                    exact ⟨_, rfl, pt, us, rfl, SqV.sq (e36 _ _ ht), _, rfl, _, _, rfl, rfl, bad (by unfold okF; rw [eN, Bool.not_true, Bool.false_and, Bool.and_false, Bool.and_false]) _ e36⟩
                  · rw [decide_eq_false hnum]
                    rw [decide_eq_false hnum] at eN
                    refine iteF ?_
                    refine ⟨_, rfl, _, rfl, d, _, rfl, .inl (SqL.of hd6), rfl, flat_strs ns2, _, rfl, ?_⟩
                    rw [show (if (false : Bool) = true then !inV (.str (strOf dj)) (ns2.map V.str) else inV (.str (strOf dj)) (ns2.map V.str)) = decide (strOf dj ∈ ns2) from in_strs _ _]
                    by_cases hin : strOf dj ∈ ns2
                    · rw [decide_eq_true hin]
                      refine iteT ?_
                      exact ⟨_, rfl, pt, us, rfl, SqV.sq (e36 _ _ ht), _, rfl, _, _, rfl, rfl, bad (by unfold okF; rw [decide_eq_true hin, Bool.not_true, Bool.and_false, Bool.and_false, Bool.and_false]) _ e36⟩
                    · rw [decide_eq_false hin]
                      refine iteF ?_
                      have hb : okF ds.length ns2 j dj = true := by unfold okF; rw [decide_eq_false hin, decide_eq_false h3, decide_eq_false h2, eN]; rfl
                      have hw1 : isWordS (strOf dj) = true := by
                        rw [en] at hW
                        exact hW
                      refine ⟨_, rfl, .inl ⟨rfl, _, SqL.of hd6⟩, _, rfl, ?_⟩
                      refine ⟨d, _, _, rfl, rfl, hd6, (by rw [List.length_map, hln2]; exact Nat.lt_of_le_of_lt (by omega : ds.length + j ≤ 40) (by decide)), ?_⟩
                      refine ⟨_, _, _, ns2 ++ [strOf dj], rfl, ?_, ?_, ?_, ?_, fun c o z => ?_⟩
                      · rw [hg]
                        show (if okF ds.length ns2 j dj = true then goF ds.length (ns2 ++ [strOf dj]) (j + 1) (es.drop (j + 1)) else .inl (ds.length + j)) = _
                        rw [hb]
                        rfl
                      · rw [List.length_append, hln2]; rfl
                      · rw [upd_same, List.map_append]; rfl
                      · intro y hy
                        rcases List.mem_append.mp hy with hy | hy
                        · exact hk4 y hy
                        · rw [List.mem_singleton.mp hy]; exact word_ok hw1
                      · rw [upd_ne (ne_of_none z nd)]
                        exact e36 _ _ z
              · have hW' : isWord dj = false := by simpa using hW
                have eN : isName dj = false := by unfold isName; rw [hW']; rfl
                rw [hW']
                refine iteT ?_
                refine ⟨_, rfl, _, rfl, ?_⟩
                refine iteT ?_
                refine iteT ?_
                exact ⟨_, rfl, pt, us, rfl, SqV.sq (e36 _ _ ht), _, rfl, _, _, rfl, rfl, bad (by unfold okF; rw [eN, Bool.false_and, Bool.and_false, Bool.and_false]) _ e36⟩
        · rintro σ H4 ⟨v3, v4, v5, ns2, rfl, hg, hln2, hd4, hk4, e4⟩
          rw [hlw, List.drop_length] at hg
          exact ⟨v3, v4, v5, ns2, rfl, hg, hd4, hk4, e4⟩
      · rintro σ H4 ⟨v3, v4, v5, ns2, rfl, hg, hd4, hk4, e4⟩
        refine ⟨_, rfl, (by show 0 ≤ sizeLine; decide), fun p np => ?_⟩
        have e5 := same_new (o := .lst []) np
        refine ⟨_, _, .lst (SqL.of (e5 _ _ hd4)) (dp_strs ns2), .lst (SqL.of upd_same) .nil, shaped_strs hk4, (by decide), _, rfl, ?_⟩
        rw [eqv_strs]
        have ew : firstW ds es = if ns2 = [] then .inl 0 else .inr ns2 := by
          unfold firstW
          rw [hgT]
          show (match goF ds.length ns 0 es with | .inl i => _ | .inr ns2 => _) = _
          rw [hg]
        have k := kQ _ (e4.trans e5)
        rw [ew] at k
        by_cases hn : ns2 = []
        · rw [decide_eq_true hn]
          rw [if_pos hn] at k
          refine iteT ?_
          exact k
        · rw [decide_eq_false hn]
          rw [if_neg hn] at k
          refine iteF ?_
          exact k
end
end L2.E2

namespace L2.E2
open PySem PySem.Spec PyProof.Rows L2.Vx
abbrev sSame : Stmt := top 24
abbrev nSame : List Str := ["_law_found", "_law_due", "_law_one", "_law_other"]
section
variable {K : PySem.W.Frag}
theorem kitAny1 {a b : String} {r : Bool} (h : kitB a b = some r) : PySem.W.kitAny K (.type a) [.type b] = some r := by
  unfold PySem.W.kitAny
  rw [kit_ty h]
  cases r <;> rfl
theorem kitAny2 {a b c : String} {r q : Bool} (h : kitB a b = some r) (h2 : kitB a c = some q) : PySem.W.kitAny K (.type a) [.type b, .type c] = some (r || q) := by
  unfold PySem.W.kitAny
  rw [kit_ty h]
  cases r
  · show _ = some q
    exact kitAny1 h2
  · rfl
theorem kitAny3 {a b c d : String} {r q p : Bool} (h : kitB a b = some r) (h2 : kitB a c = some q) (h3 : kitB a d = some p) : PySem.W.kitAny K (.type a) [.type b, .type c, .type d] = some (r || (q || p)) := by
  unfold PySem.W.kitAny
  rw [kit_ty h]
  cases r
  · show _ = some (q || p)
    exact kitAny2 h2 h3
  · rfl
theorem walk_zipT {a b : Addr} {xs ys : List V} (hl : xs.length = ys.length) : Walk (RZ.ItzT K a b) xs.length (fun H => SqT K H a xs ∧ SqT K H b ys) (YPair (fun i => xs[i]?) (fun i => ys[i]?)) := by
  refine ⟨fun i _ hi q => ?_, fun _ q => ⟨xs, ys, q.1, q.2, .inl (Nat.le_refl _)⟩, fun i H v H' _ q y => ?_⟩
  · exact ⟨xs, ys, xs[i], ys[i]'(by omega), q.1, q.2, List.getElem?_eq_getElem hi, List.getElem?_eq_getElem _⟩
  · obtain ⟨T, x, z, z1, z2, z3, z4, z5⟩ := y
    exact ⟨T, x, z, z1, z2, z3, z4 xs q.1, z5 ys q.2⟩
end
def spSame (n : Nat) : Sp := fun vs H Q _ => ∃ (v w : V) (d : D) (S S' : Addr → Prop), vs = [v, w] ∧ Rep H n S v d ∧ Rep H n S' w d ∧ n ≤ 50 ∧ ∀ H', Same H H' → Q (.bl true) H'
structure TxD (K : PySem.W.Frag) (mg : Str → Option Value) (fS : Addr) : Prop where
  z_isinstance : mg "isinstance" = none
  z_list : mg "list" = none
  z_tuple : mg "tuple" = none
  z_int : mg "int" = none
  z_bool : mg "bool" = none
  z_len : mg "len" = none
  z_all : mg "all" = none
  z_zip : mg "zip" = none
  m_same : mg "_law_same" = some (.ref fS)
  k_same : PySem.W.keepIn K (.ref fS) = true
section
variable {P : Program} {w : World} {K : PySem.W.Frag} {mg : Str → Option Value} {base : Heap}
theorem scSame : FnScope nSame ["_law_found", "_law_due"] (defScope sSame) := ⟨rfl, rfl, rfl, by decide +kernel, rfl, by decide +kernel, by decide +kernel⟩
theorem ok_same {f : Addr} {fd : FuncData} (F : Fun K "_law_same" "_law_same" sSame f fd) (T : TxD K mg f) (bS : Binds K fd ["_law_found", "_law_due"] []) : ∀ n : Nat, FnOk P w K mg base CX0 (n + 1) f fd ["_law_found", "_law_due"] (spSame n)
  | 0 => by
    refine F.ok scSame (fun vs H Q E h => ?_) (fun cdv A outer s H vs Q E hr h => ?_)
    · obtain ⟨v, w, d, S, S', rfl, _⟩ := h
      rfl
    · obtain ⟨v, w, d, S, S', rfl, r, _⟩ := h
      exact r.elim
  | n + 1 => by
    have GS := ok_same F T bS n
    refine F.ok scSame (fun vs H Q E h => ?_) (fun cdv A outer s H vs Q E hr h => ?_)
    · obtain ⟨v, w, d, S, S', rfl, _⟩ := h
      rfl
    · obtain ⟨v, w, d, S, S', rfl, r1, r2, hn, k⟩ := h
      cases d with
      | leaf x =>
        obtain ⟨rfl, lf⟩ := r1
        obtain ⟨rfl, _⟩ := r2
        cases w with
        | bl y =>
          refine ⟨_, (pss_cons (ps_if (pt_val (pe_callB call_isiT (by rfl) T.z_isinstance (by decide +kernel) (pa_cons (pv 1) (pa_cons (pe_tup (pa_cons (pe_bltn (v := .ty "list") (by rfl) T.z_list (by decide +kernel) rfl) (pa_cons (pe_bltn (v := .ty "tuple") (by rfl) T.z_tuple (by decide +kernel) rfl) pa_nil))) pa_nil)))) pss_never pss_nil) (pss_cons (ps_if (pt_val (pe_callB call_isi (by rfl) T.z_isinstance (by decide +kernel) (pa_cons (pv 1) (pa_cons (pe_bltn (v := .ty "int") (by rfl) T.z_int (by decide +kernel) rfl) pa_nil)))) (pss_one (ps_ret (pe_and (pe_callB call_isi (by rfl) T.z_isinstance (by decide +kernel) (pa_cons (pv 0) (pa_cons (pe_bltn (v := .ty "int") (by rfl) T.z_int (by decide +kernel) rfl) pa_nil))) (pe_and (pe_cmpR op_eq (pe_callB call_isi (by rfl) T.z_isinstance (by decide +kernel) (pa_cons (pv 0) (pa_cons (pe_bltn (v := .ty "bool") (by rfl) T.z_bool (by decide +kernel) rfl) pa_nil))) (pe_callB call_isi (by rfl) T.z_isinstance (by decide +kernel) (pa_cons (pv 1) (pa_cons (pe_bltn (v := .ty "bool") (by rfl) T.z_bool (by decide +kernel) rfl) pa_nil))) (nomark _)) (pe_one (pe_cmpR op_eq (pv 0) (pv 1) (nomark _))))))) pss_nil) pss_never)), ?_⟩
          refine ⟨_, rfl, (by show 2 ≤ sizeLine; decide), fun p np => ⟨(.bl y), p, [.ty "list", .ty "tuple"], _, _, _, rfl, upd_same, .cons (.ty _) (.cons (.ty _) (.nil)), (.base (.bl y)), (kitAny2 (a := "bool") (b := "list") (c := "tuple") (r := false) (q := false) (by decide +kernel) (by decide +kernel)), _, rfl, ?_⟩⟩
          have e1 := same_new (o := .tup [.ty "list", .ty "tuple"]) np
          refine iteF ?_
          refine ⟨_, rfl, (.bl y), .ty "int", _, _, _, rfl, .ty _, (.base (.bl y)), (kit_ty (a := "bool") (b := "int") (r := true) (by decide +kernel)), _, rfl, ?_⟩
          refine iteT ?_
          refine ⟨_, rfl, (.bl y), .ty "int", _, _, _, rfl, .ty _, (.base (.bl y)), (kit_ty (a := "bool") (b := "int") (r := true) (by decide +kernel)), _, rfl, ?_⟩
          refine iteT ?_
          refine ⟨_, rfl, (.bl y), .ty "bool", _, _, _, rfl, .ty _, (.base (.bl y)), (kit_ty (a := "bool") (b := "bool") (r := true) (by decide +kernel)), _, rfl, (.bl y), .ty "bool", _, _, _, rfl, .ty _, (.base (.bl y)), (kit_ty (a := "bool") (b := "bool") (r := true) (by decide +kernel)), rfl, _, rfl, ?_⟩
          rw [decide_eq_true rfl]
          refine iteT ?_
          refine ⟨_, rfl, _, rfl, rfl, ?_⟩
          rw [decide_eq_true rfl]
          exact k _ e1
        | int y =>
          refine ⟨_, (pss_cons (ps_if (pt_val (pe_callB call_isiT (by rfl) T.z_isinstance (by decide +kernel) (pa_cons (pv 1) (pa_cons (pe_tup (pa_cons (pe_bltn (v := .ty "list") (by rfl) T.z_list (by decide +kernel) rfl) (pa_cons (pe_bltn (v := .ty "tuple") (by rfl) T.z_tuple (by decide +kernel) rfl) pa_nil))) pa_nil)))) pss_never pss_nil) (pss_cons (ps_if (pt_val (pe_callB call_isi (by rfl) T.z_isinstance (by decide +kernel) (pa_cons (pv 1) (pa_cons (pe_bltn (v := .ty "int") (by rfl) T.z_int (by decide +kernel) rfl) pa_nil)))) (pss_one (ps_ret (pe_and (pe_callB call_isi (by rfl) T.z_isinstance (by decide +kernel) (pa_cons (pv 0) (pa_cons (pe_bltn (v := .ty "int") (by rfl) T.z_int (by decide +kernel) rfl) pa_nil))) (pe_and (pe_cmpR op_eq (pe_callB call_isi (by rfl) T.z_isinstance (by decide +kernel) (pa_cons (pv 0) (pa_cons (pe_bltn (v := .ty "bool") (by rfl) T.z_bool (by decide +kernel) rfl) pa_nil))) (pe_callB call_isi (by rfl) T.z_isinstance (by decide +kernel) (pa_cons (pv 1) (pa_cons (pe_bltn (v := .ty "bool") (by rfl) T.z_bool (by decide +kernel) rfl) pa_nil))) (nomark _)) (pe_one (pe_cmpR op_eq (pv 0) (pv 1) (nomark _))))))) pss_nil) pss_never)), ?_⟩
          refine ⟨_, rfl, (by show 2 ≤ sizeLine; decide), fun p np => ⟨(.int y), p, [.ty "list", .ty "tuple"], _, _, _, rfl, upd_same, .cons (.ty _) (.cons (.ty _) (.nil)), (.base (.int y)), (kitAny2 (a := "int") (b := "list") (c := "tuple") (r := false) (q := false) (by decide +kernel) (by decide +kernel)), _, rfl, ?_⟩⟩
          have e1 := same_new (o := .tup [.ty "list", .ty "tuple"]) np
          refine iteF ?_
          refine ⟨_, rfl, (.int y), .ty "int", _, _, _, rfl, .ty _, (.base (.int y)), (kit_ty (a := "int") (b := "int") (r := true) (by decide +kernel)), _, rfl, ?_⟩
          refine iteT ?_
          refine ⟨_, rfl, (.int y), .ty "int", _, _, _, rfl, .ty _, (.base (.int y)), (kit_ty (a := "int") (b := "int") (r := true) (by decide +kernel)), _, rfl, ?_⟩
          refine iteT ?_
          refine ⟨_, rfl, (.int y), .ty "bool", _, _, _, rfl, .ty _, (.base (.int y)), (kit_ty (a := "int") (b := "bool") (r := false) (by decide +kernel)), _, rfl, (.int y), .ty "bool", _, _, _, rfl, .ty _, (.base (.int y)), (kit_ty (a := "int") (b := "bool") (r := false) (by decide +kernel)), rfl, _, rfl, ?_⟩
          rw [decide_eq_true rfl]
          refine iteT ?_
          refine ⟨_, rfl, _, rfl, rfl, ?_⟩
          rw [decide_eq_true rfl]
          exact k _ e1
        | non =>
          refine ⟨_, (pss_cons (ps_if (pt_val (pe_callB call_isiT (by rfl) T.z_isinstance (by decide +kernel) (pa_cons (pv 1) (pa_cons (pe_tup (pa_cons (pe_bltn (v := .ty "list") (by rfl) T.z_list (by decide +kernel) rfl) (pa_cons (pe_bltn (v := .ty "tuple") (by rfl) T.z_tuple (by decide +kernel) rfl) pa_nil))) pa_nil)))) pss_never pss_nil) (pss_cons (ps_if (pt_val (pe_callB call_isi (by rfl) T.z_isinstance (by decide +kernel) (pa_cons (pv 1) (pa_cons (pe_bltn (v := .ty "int") (by rfl) T.z_int (by decide +kernel) rfl) pa_nil)))) pss_never pss_nil) (pss_one (ps_ret (pe_and (pe_cmpR op_eq (pv 0) (pv 1) (nomark _)) (pe_one (pe_cmpR op_isBl (pe_callB call_isiT (by rfl) T.z_isinstance (by decide +kernel) (pa_cons (pv 0) (pa_cons (pe_tup (pa_cons (pe_bltn (v := .ty "int") (by rfl) T.z_int (by decide +kernel) rfl) (pa_cons (pe_bltn (v := .ty "list") (by rfl) T.z_list (by decide +kernel) rfl) (pa_cons (pe_bltn (v := .ty "tuple") (by rfl) T.z_tuple (by decide +kernel) rfl) pa_nil)))) pa_nil))) pe_bl (nomark _)))))))), ?_⟩
          refine ⟨_, rfl, (by show 2 ≤ sizeLine; decide), fun p np => ⟨.non, p, [.ty "list", .ty "tuple"], _, _, _, rfl, upd_same, .cons (.ty _) (.cons (.ty _) (.nil)), (.base .non), (kitAny2 (a := "NoneType") (b := "list") (c := "tuple") (r := false) (q := false) (by decide +kernel) (by decide +kernel)), _, rfl, ?_⟩⟩
          have e1 := same_new (o := .tup [.ty "list", .ty "tuple"]) np
          refine iteF ?_
          refine ⟨_, rfl, .non, .ty "int", _, _, _, rfl, .ty _, (.base .non), (kit_ty (a := "NoneType") (b := "int") (r := false) (by decide +kernel)), _, rfl, ?_⟩
          refine iteF ?_
          refine ⟨_, rfl, _, rfl, rfl, _, rfl, ?_⟩
          rw [decide_eq_true rfl]
          refine iteT ?_
          refine ⟨_, rfl, (by show 3 ≤ sizeLine; decide), fun p np => ⟨.non, p, [.ty "int", .ty "list", .ty "tuple"], _, _, _, rfl, upd_same, .cons (.ty _) (.cons (.ty _) (.cons (.ty _) (.nil))), (.base .non), (kitAny3 (a := "NoneType") (b := "int") (c := "list") (d := "tuple") (r := false) (q := false) (p := false) (by decide +kernel) (by decide +kernel) (by decide +kernel)), false, false, rfl, rfl, ?_⟩⟩
          exact k _ (e1.trans (same_new np))
        | str y =>
          refine ⟨_, (pss_cons (ps_if (pt_val (pe_callB call_isiT (by rfl) T.z_isinstance (by decide +kernel) (pa_cons (pv 1) (pa_cons (pe_tup (pa_cons (pe_bltn (v := .ty "list") (by rfl) T.z_list (by decide +kernel) rfl) (pa_cons (pe_bltn (v := .ty "tuple") (by rfl) T.z_tuple (by decide +kernel) rfl) pa_nil))) pa_nil)))) pss_never pss_nil) (pss_cons (ps_if (pt_val (pe_callB call_isi (by rfl) T.z_isinstance (by decide +kernel) (pa_cons (pv 1) (pa_cons (pe_bltn (v := .ty "int") (by rfl) T.z_int (by decide +kernel) rfl) pa_nil)))) pss_never pss_nil) (pss_one (ps_ret (pe_and (pe_cmpR op_eq (pv 0) (pv 1) (nomark _)) (pe_one (pe_cmpR op_isBl (pe_callB call_isiT (by rfl) T.z_isinstance (by decide +kernel) (pa_cons (pv 0) (pa_cons (pe_tup (pa_cons (pe_bltn (v := .ty "int") (by rfl) T.z_int (by decide +kernel) rfl) (pa_cons (pe_bltn (v := .ty "list") (by rfl) T.z_list (by decide +kernel) rfl) (pa_cons (pe_bltn (v := .ty "tuple") (by rfl) T.z_tuple (by decide +kernel) rfl) pa_nil)))) pa_nil))) pe_bl (nomark _)))))))), ?_⟩
          refine ⟨_, rfl, (by show 2 ≤ sizeLine; decide), fun p np => ⟨(.str y), p, [.ty "list", .ty "tuple"], _, _, _, rfl, upd_same, .cons (.ty _) (.cons (.ty _) (.nil)), (.base (.str y)), (kitAny2 (a := "str") (b := "list") (c := "tuple") (r := false) (q := false) (by decide +kernel) (by decide +kernel)), _, rfl, ?_⟩⟩
          have e1 := same_new (o := .tup [.ty "list", .ty "tuple"]) np
          refine iteF ?_
          refine ⟨_, rfl, (.str y), .ty "int", _, _, _, rfl, .ty _, (.base (.str y)), (kit_ty (a := "str") (b := "int") (r := false) (by decide +kernel)), _, rfl, ?_⟩
          refine iteF ?_
          refine ⟨_, rfl, _, rfl, rfl, _, rfl, ?_⟩
          rw [decide_eq_true rfl]
          refine iteT ?_
          refine ⟨_, rfl, (by show 3 ≤ sizeLine; decide), fun p np => ⟨(.str y), p, [.ty "int", .ty "list", .ty "tuple"], _, _, _, rfl, upd_same, .cons (.ty _) (.cons (.ty _) (.cons (.ty _) (.nil))), (.base (.str y)), (kitAny3 (a := "str") (b := "int") (c := "list") (d := "tuple") (r := false) (q := false) (p := false) (by decide +kernel) (by decide +kernel) (by decide +kernel)), false, false, rfl, rfl, ?_⟩⟩
          exact k _ (e1.trans (same_new np))
        | byt y => cases lf
        | flt y => cases lf
        | ref y => cases lf
        | ty y => cases lf
      | seq b ds =>
        obtain ⟨p1, us, rfl, ns1, h1, hl1, hp1⟩ := r1
        obtain ⟨p2, ws, rfl, ns2, h2, hl2, hp2⟩ := r2
        have hlen : us.length = ws.length := (Paired.length hp1).trans (Paired.length hp2).symm
        cases b with
        | true =>
          have g1 : H p1 = some (.lst us) := h1
          have g2 : H p2 = some (.lst ws) := h2
          refine ⟨_, (pss_cons (ps_if (pt_val (pe_callB call_isiT (by rfl) T.z_isinstance (by decide +kernel) (pa_cons (pv 1) (pa_cons (pe_tup (pa_cons (pe_bltn (v := .ty "list") (by rfl) T.z_list (by decide +kernel) rfl) (pa_cons (pe_bltn (v := .ty "tuple") (by rfl) T.z_tuple (by decide +kernel) rfl) pa_nil))) pa_nil)))) (pss_cons (ps_if (PW.pt (pw_or (pt_cmpR op_ne (pe_callB call_isi (by rfl) T.z_isinstance (by decide +kernel) (pa_cons (pv 0) (pa_cons (pe_bltn (v := .ty "list") (by rfl) T.z_list (by decide +kernel) rfl) pa_nil))) (pe_callB call_isi (by rfl) T.z_isinstance (by decide +kernel) (pa_cons (pv 1) (pa_cons (pe_bltn (v := .ty "list") (by rfl) T.z_list (by decide +kernel) rfl) pa_nil))) (nomark _)) (pw_or1 (pt_cmpR op_ne (pe_callB call_isi (by rfl) T.z_isinstance (by decide +kernel) (pa_cons (pv 0) (pa_cons (pe_bltn (v := .ty "tuple") (by rfl) T.z_tuple (by decide +kernel) rfl) pa_nil))) (pe_callB call_isi (by rfl) T.z_isinstance (by decide +kernel) (pa_cons (pv 1) (pa_cons (pe_bltn (v := .ty "tuple") (by rfl) T.z_tuple (by decide +kernel) rfl) pa_nil))) (nomark _))))) pss_never pss_nil) (pss_one (ps_ret (pe_and (pe_cmpR op_eq (pe_callB call_len_seq (by rfl) T.z_len (by decide +kernel) (pa_cons (pv 0) pa_nil)) (pe_callB call_len_seq (by rfl) T.z_len (by decide +kernel) (pa_cons (pv 1) pa_nil)) (nomark _)) (pe_one (pe_callB (cr_all rfl) (by rfl) T.z_all (by decide +kernel) (pa_cons (pe_lc (own := [("_law_one", 2), ("_law_other", 3)]) (g := gTup K 2 (gCons (gName 2) (gCons (gName 3) gNil))) (tt := tYes) rfl scSame.nd (RZ.pi_zipA (by rfl) T.z_zip (pa_cons (pv 0) (pa_cons (pv 1) pa_nil))) (blkOk_by (N := nSame) (sc := defScope sSame) (by decide +kernel)) (fun _ _ _ _ _ => pg_tup rfl (pgs_cons (pg_name (i := 2) scSame.nd rfl (Or.inl rfl)) (pgs_cons (pg_name (i := 3) scSame.nd rfl (Or.inl rfl)) pgs_nil))) (fun _ _ _ _ _ => pts_nil) (fun _ _ _ _ _ => (pe_call GS (hr.mono (by omega)) rfl T.m_same T.k_same bS .nil pass0 (pa_cons (pv 2) (pa_cons (pv 3) pa_nil))))) pa_nil))))))) pss_nil) pss_never), ?_⟩
          refine ⟨_, rfl, (by show 2 ≤ sizeLine; decide), fun p np => ⟨.ref p2, p, [.ty "list", .ty "tuple"], _, _, _, rfl, upd_same, .cons (.ty _) (.cons (.ty _) (.nil)), .base (.lst (by exact same_new np _ _ g2)), (kitAny2 (a := "list") (b := "list") (c := "tuple") (r := true) (q := false) (by decide +kernel) (by decide +kernel)), _, rfl, ?_⟩⟩
          have e1 := same_new (o := .tup [.ty "list", .ty "tuple"]) np
          generalize upd H p (.tup [.ty "list", .ty "tuple"]) = H1 at e1
          refine iteT ?_
          refine ⟨_, rfl, .ref p1, .ty "list", _, _, _, rfl, .ty _, .base (.lst (e1 _ _ g1)), (kit_ty (a := "list") (b := "list") (r := true) (by decide +kernel)), _, rfl, .ref p2, .ty "list", _, _, _, rfl, .ty _, .base (.lst (e1 _ _ g2)), (kit_ty (a := "list") (b := "list") (r := true) (by decide +kernel)), rfl, _, rfl, ?_⟩
          refine iteNS rfl ?_
          refine ⟨_, rfl, .ref p1, .ty "tuple", _, _, _, rfl, .ty _, .base (.lst (e1 _ _ g1)), (kit_ty (a := "list") (b := "tuple") (r := false) (by decide +kernel)), _, rfl, .ref p2, .ty "tuple", _, _, _, rfl, .ty _, .base (.lst (e1 _ _ g2)), (kit_ty (a := "list") (b := "tuple") (r := false) (by decide +kernel)), rfl, _, rfl, ?_⟩
          refine iteNS rfl ?_
          refine ⟨_, rfl, p1, us, rfl, SqV.sq (b := true) (e1 _ _ g1), _, rfl, p2, ws, rfl, SqV.sq (b := true) (e1 _ _ g2), rfl, _, rfl, ?_⟩
          rw [decide_eq_true (show V.int (us.length : Int) = V.int (ws.length : Int) by rw [hlen])]
          refine iteT ?_
          refine ⟨_, rfl, _, rfl, p1, p2, us, ws, rfl, .inl ⟨SqL.of (e1 _ _ g1), SqL.of (e1 _ _ g2), fun D nD => ?_⟩⟩
          refine lc_it (walk_zip (n := us.length) (xs := us) (ys := ws) (by omega)) (fun i H3 => H3 D = some (.lst (List.replicate i (.bl true))) ∧ Same H1 H3) ?_ ?_ ?_ ?_
          · exact ⟨upd_same, same_new nD⟩
          · rintro i H3 _ ⟨_, e3⟩
            exact ⟨SqL.of (e3 _ _ (e1 _ _ g1)), SqL.of (e3 _ _ (e1 _ _ g2))⟩
          · rintro i y H3 H3' hi ⟨hD, e3⟩ ⟨q, x1, x2, rfl, nq, e, hx1, hx2⟩
            subst e
            have e4 := same_new (o := .tup [x1, x2]) nq
            refine ⟨q, [x1, x2], rfl, SqT.of upd_same, rfl, x1, [x2], rfl, x2, [], rfl, rfl, rfl, ?_⟩
            unfold tYes
            refine iteT ?_
            obtain ⟨d1, hd1, rd1⟩ := Paired.get hp1 hx1
            obtain ⟨d2, hd2, rd2⟩ := Paired.get hp2 hx2
            rw [hd1] at hd2
            cases hd2
            have e34 : Same H (upd H3 q (.tup [x1, x2])) := e1.trans (e3.trans e4)
            refine ⟨_, rfl, _, rfl, x1, x2, d1, S, S', rfl, rd1.kp (Kp.of e34), rd2.kp (Kp.of e34), by omega, fun H4 e5 => ⟨_, e5 _ _ (e4 _ _ hD), ?_, ?_, ?_⟩⟩
            · rw [List.length_replicate]
              exact Nat.lt_of_le_of_lt (by omega : i ≤ 60) (by decide)
            · rw [upd_same, List.replicate_succ']
            · exact fun c o z => by
                rw [upd_ne (ne_of_none z nD)]
                exact e5 _ _ (e4 _ _ (e3 _ _ z))
          · rintro H3 ⟨hD, e3⟩
            refine ⟨D, List.replicate us.length true, rfl, SqL.of (by rw [List.map_replicate]; exact hD), ?_⟩
            rw [show (List.replicate us.length true).all id = true by simp]
            exact k H3 (e1.trans e3)
        | false =>
          have g1 : H p1 = some (.tup us) := h1
          have g2 : H p2 = some (.tup ws) := h2
          refine ⟨_, (pss_cons (ps_if (pt_val (pe_callB call_isiT (by rfl) T.z_isinstance (by decide +kernel) (pa_cons (pv 1) (pa_cons (pe_tup (pa_cons (pe_bltn (v := .ty "list") (by rfl) T.z_list (by decide +kernel) rfl) (pa_cons (pe_bltn (v := .ty "tuple") (by rfl) T.z_tuple (by decide +kernel) rfl) pa_nil))) pa_nil)))) (pss_cons (ps_if (PW.pt (pw_or (pt_cmpR op_ne (pe_callB call_isi (by rfl) T.z_isinstance (by decide +kernel) (pa_cons (pv 0) (pa_cons (pe_bltn (v := .ty "list") (by rfl) T.z_list (by decide +kernel) rfl) pa_nil))) (pe_callB call_isi (by rfl) T.z_isinstance (by decide +kernel) (pa_cons (pv 1) (pa_cons (pe_bltn (v := .ty "list") (by rfl) T.z_list (by decide +kernel) rfl) pa_nil))) (nomark _)) (pw_or1 (pt_cmpR op_ne (pe_callB call_isi (by rfl) T.z_isinstance (by decide +kernel) (pa_cons (pv 0) (pa_cons (pe_bltn (v := .ty "tuple") (by rfl) T.z_tuple (by decide +kernel) rfl) pa_nil))) (pe_callB call_isi (by rfl) T.z_isinstance (by decide +kernel) (pa_cons (pv 1) (pa_cons (pe_bltn (v := .ty "tuple") (by rfl) T.z_tuple (by decide +kernel) rfl) pa_nil))) (nomark _))))) pss_never pss_nil) (pss_one (ps_ret (pe_and (pe_cmpR op_eq (pe_callB call_len_seq (by rfl) T.z_len (by decide +kernel) (pa_cons (pv 0) pa_nil)) (pe_callB call_len_seq (by rfl) T.z_len (by decide +kernel) (pa_cons (pv 1) pa_nil)) (nomark _)) (pe_one (pe_callB (cr_all rfl) (by rfl) T.z_all (by decide +kernel) (pa_cons (pe_lc (own := [("_law_one", 2), ("_law_other", 3)]) (g := gTup K 2 (gCons (gName 2) (gCons (gName 3) gNil))) (tt := tYes) rfl scSame.nd (RZ.pi_zipA (by rfl) T.z_zip (pa_cons (pv 0) (pa_cons (pv 1) pa_nil))) (blkOk_by (N := nSame) (sc := defScope sSame) (by decide +kernel)) (fun _ _ _ _ _ => pg_tup rfl (pgs_cons (pg_name (i := 2) scSame.nd rfl (Or.inl rfl)) (pgs_cons (pg_name (i := 3) scSame.nd rfl (Or.inl rfl)) pgs_nil))) (fun _ _ _ _ _ => pts_nil) (fun _ _ _ _ _ => (pe_call GS (hr.mono (by omega)) rfl T.m_same T.k_same bS .nil pass0 (pa_cons (pv 2) (pa_cons (pv 3) pa_nil))))) pa_nil))))))) pss_nil) pss_never), ?_⟩
          refine ⟨_, rfl, (by show 2 ≤ sizeLine; decide), fun p np => ⟨.ref p2, p, [.ty "list", .ty "tuple"], _, _, _, rfl, upd_same, .cons (.ty _) (.cons (.ty _) (.nil)), .base (.tup (by exact same_new np _ _ g2)), (kitAny2 (a := "tuple") (b := "list") (c := "tuple") (r := false) (q := true) (by decide +kernel) (by decide +kernel)), _, rfl, ?_⟩⟩
          have e1 := same_new (o := .tup [.ty "list", .ty "tuple"]) np
          generalize upd H p (.tup [.ty "list", .ty "tuple"]) = H1 at e1
          refine iteT ?_
          refine ⟨_, rfl, .ref p1, .ty "list", _, _, _, rfl, .ty _, .base (.tup (e1 _ _ g1)), (kit_ty (a := "tuple") (b := "list") (r := false) (by decide +kernel)), _, rfl, .ref p2, .ty "list", _, _, _, rfl, .ty _, .base (.tup (e1 _ _ g2)), (kit_ty (a := "tuple") (b := "list") (r := false) (by decide +kernel)), rfl, _, rfl, ?_⟩
          refine iteNS rfl ?_
          refine ⟨_, rfl, .ref p1, .ty "tuple", _, _, _, rfl, .ty _, .base (.tup (e1 _ _ g1)), (kit_ty (a := "tuple") (b := "tuple") (r := true) (by decide +kernel)), _, rfl, .ref p2, .ty "tuple", _, _, _, rfl, .ty _, .base (.tup (e1 _ _ g2)), (kit_ty (a := "tuple") (b := "tuple") (r := true) (by decide +kernel)), rfl, _, rfl, ?_⟩
          refine iteNS rfl ?_
          refine ⟨_, rfl, p1, us, rfl, SqV.sq (b := false) (e1 _ _ g1), _, rfl, p2, ws, rfl, SqV.sq (b := false) (e1 _ _ g2), rfl, _, rfl, ?_⟩
          rw [decide_eq_true (show V.int (us.length : Int) = V.int (ws.length : Int) by rw [hlen])]
          refine iteT ?_
          refine ⟨_, rfl, _, rfl, p1, p2, us, ws, rfl, .inr ⟨SqT.of (e1 _ _ g1), SqT.of (e1 _ _ g2), fun D nD => ?_⟩⟩
          refine lc_it (walk_zipT hlen) (fun i H3 => H3 D = some (.lst (List.replicate i (.bl true))) ∧ Same H1 H3) ?_ ?_ ?_ ?_
          · exact ⟨upd_same, same_new nD⟩
          · rintro i H3 _ ⟨_, e3⟩
            exact ⟨SqT.of (e3 _ _ (e1 _ _ g1)), SqT.of (e3 _ _ (e1 _ _ g2))⟩
          · rintro i y H3 H3' hi ⟨hD, e3⟩ ⟨q, x1, x2, rfl, nq, e, hx1, hx2⟩
            subst e
            have e4 := same_new (o := .tup [x1, x2]) nq
            refine ⟨q, [x1, x2], rfl, SqT.of upd_same, rfl, x1, [x2], rfl, x2, [], rfl, rfl, rfl, ?_⟩
            unfold tYes
            refine iteT ?_
            obtain ⟨d1, hd1, rd1⟩ := Paired.get hp1 hx1
            obtain ⟨d2, hd2, rd2⟩ := Paired.get hp2 hx2
            rw [hd1] at hd2
            cases hd2
            have e34 : Same H (upd H3 q (.tup [x1, x2])) := e1.trans (e3.trans e4)
            refine ⟨_, rfl, _, rfl, x1, x2, d1, S, S', rfl, rd1.kp (Kp.of e34), rd2.kp (Kp.of e34), by omega, fun H4 e5 => ⟨_, e5 _ _ (e4 _ _ hD), ?_, ?_, ?_⟩⟩
            · rw [List.length_replicate]
              exact Nat.lt_of_le_of_lt (by omega : i ≤ 60) (by decide)
            · rw [upd_same, List.replicate_succ']
            · exact fun c o z => by
                rw [upd_ne (ne_of_none z nD)]
                exact e5 _ _ (e4 _ _ (e3 _ _ z))
          · rintro H3 ⟨hD, e3⟩
            refine ⟨D, List.replicate us.length true, rfl, SqL.of (by rw [List.map_replicate]; exact hD), ?_⟩
            rw [show (List.replicate us.length true).all id = true by simp]
            exact k H3 (e1.trans e3)
      | dct =>
        obtain ⟨p1, rfl, ns1, g1⟩ := r1
        obtain ⟨p2, rfl, ns2, g2⟩ := r2
        refine ⟨_, (pss_cons (ps_if (pt_val (pe_callB call_isiT (by rfl) T.z_isinstance (by decide +kernel) (pa_cons (pv 1) (pa_cons (pe_tup (pa_cons (pe_bltn (v := .ty "list") (by rfl) T.z_list (by decide +kernel) rfl) (pa_cons (pe_bltn (v := .ty "tuple") (by rfl) T.z_tuple (by decide +kernel) rfl) pa_nil))) pa_nil)))) pss_never pss_nil) (pss_cons (ps_if (pt_val (pe_callB call_isi (by rfl) T.z_isinstance (by decide +kernel) (pa_cons (pv 1) (pa_cons (pe_bltn (v := .ty "int") (by rfl) T.z_int (by decide +kernel) rfl) pa_nil)))) pss_never pss_nil) (pss_one (ps_ret (pe_and (pe_cmpR (op_eqV hr.units) (pv 0) (pv 1) (nomark _)) (pe_one (pe_cmpR op_isBl (pe_callB call_isiT (by rfl) T.z_isinstance (by decide +kernel) (pa_cons (pv 0) (pa_cons (pe_tup (pa_cons (pe_bltn (v := .ty "int") (by rfl) T.z_int (by decide +kernel) rfl) (pa_cons (pe_bltn (v := .ty "list") (by rfl) T.z_list (by decide +kernel) rfl) (pa_cons (pe_bltn (v := .ty "tuple") (by rfl) T.z_tuple (by decide +kernel) rfl) pa_nil)))) pa_nil))) pe_bl (nomark _)))))))), ?_⟩
        refine ⟨_, rfl, (by show 2 ≤ sizeLine; decide), fun p np => ⟨.ref p2, p, [.ty "list", .ty "tuple"], _, _, _, rfl, upd_same, .cons (.ty _) (.cons (.ty _) (.nil)), .base (.dK (by exact same_new np _ _ g2)), (kitAny2 (a := "dict") (b := "list") (c := "tuple") (r := false) (q := false) (by decide +kernel) (by decide +kernel)), _, rfl, ?_⟩⟩
        have e1 := same_new (o := .tup [.ty "list", .ty "tuple"]) np
        generalize upd H p (.tup [.ty "list", .ty "tuple"]) = H1 at e1
        refine iteF ?_
        refine ⟨_, rfl, .ref p2, .ty "int", _, _, _, rfl, .ty _, .base (.dK (e1 _ _ g2)), (kit_ty (a := "dict") (b := "int") (r := false) (by decide +kernel)), _, rfl, ?_⟩
        refine iteF ?_
        refine ⟨_, rfl, _, rfl, 1, by decide, .inr ⟨p1, p2, [], [], rfl, rfl, e1 _ _ g1, e1 _ _ g2, rfl, fun _ z => by cases z⟩, _, rfl, ?_⟩
        refine iteT ?_
        refine ⟨_, rfl, (by show 3 ≤ sizeLine; decide), fun p np => ⟨.ref p1, p, [.ty "int", .ty "list", .ty "tuple"], _, _, _, rfl, upd_same, .cons (.ty _) (.cons (.ty _) (.cons (.ty _) (.nil))), .base (.dK (by exact same_new np _ _ (e1 _ _ g1))), (kitAny3 (a := "dict") (b := "int") (c := "list") (d := "tuple") (r := false) (q := false) (p := false) (by decide +kernel) (by decide +kernel) (by decide +kernel)), false, false, rfl, rfl, ?_⟩⟩
        exact k _ (e1.trans (same_new np))
end
end L2.E2

namespace L2.E2
open PySem PySem.Spec PyProof.Rows L2.Vx
abbrev sFz : Stmt := top 20
abbrev sPick : Stmt := top 23
abbrev nFz : List Str := ["_law_thing", "_law_one"]
abbrev NoS : Addr → Prop := fun _ => False
/-- lists become tuples -/
def fzN : Nat → D → D
  | 0, d => d
  | n + 1, .seq _ ds => .seq false (ds.map (fzN n))
  | _ + 1, d => d
theorem Paired.ofMap {α β γ : Type} {R : α → γ → Prop} {f : β → γ} : ∀ {us : List α} {ds : List β}, Paired R us (ds.map f) → Paired (fun u d => R u (f d)) us ds
  | [], [], _ => .nil
  | _ :: _, _ :: _, .cons h t => .cons h (Paired.ofMap t)
theorem Paired.toMap {α β γ : Type} {R : α → γ → Prop} {f : β → γ} : ∀ {us : List α} {ds : List β}, Paired (fun u d => R u (f d)) us ds → Paired R us (ds.map f)
  | _, _, .nil => .nil
  | _, _, .cons h t => .cons h (Paired.toMap t)
theorem Paired.push {α β : Type} {R : α → β → Prop} : ∀ {xs : List α} {ys : List β} {x : α} {y : β}, Paired R xs ys → R x y → Paired R (xs ++ [x]) (ys ++ [y])
  | _, _, _, _, .nil, r => .cons r .nil
  | _, _, _, _, .cons a t, r => .cons a (Paired.push t r)
theorem Rep.skip {H : Hp} {p : Addr} {o : HO} {xs : List V} (hp : H p = some (.lst xs)) : ∀ {n : Nat} {S : Addr → Prop} {v : V} {d : D}, Rep H n S v (fzN n d) → Rep (upd H p o) n S v (fzN n d)
  | 0, _, _, _, h => h
  | n + 1, S, v, .leaf x, h => h
  | n + 1, S, v, .seq b ds, ⟨a, us, e, ns, ha, hl, hh⟩ => by
    have ap : a ≠ p := fun q => by
      rw [q, hp] at ha
      cases ha
    exact ⟨a, us, e, ns, by rw [upd_ne ap]; exact ha, hl, Paired.toMap (L2.Paired.mapP (Paired.ofMap hh) fun _ _ z => Rep.skip hp z)⟩
  | n + 1, S, v, .dct, ⟨a, e, ns, ha⟩ => by
    have ap : a ≠ p := fun q => by
      rw [q, hp] at ha
      cases ha
    exact ⟨a, e, ns, by rw [upd_ne ap]; exact ha⟩
def spFz (n : Nat) : Sp := fun vs H Q _ => ∃ (v : V) (d : D) (S : Addr → Prop), vs = [v] ∧ Rep H n S v d ∧ ∀ (w : V) (H' : Hp), Rep H' n NoS w (fzN n d) → Same H H' → Q w H'
structure TxF (K : PySem.W.Frag) (mg : Str → Option Value) (fF : Addr) : Prop where
  z_isinstance : mg "isinstance" = none
  z_list : mg "list" = none
  z_tuple : mg "tuple" = none
  z_len : mg "len" = none
  m_fz : mg "_law_m_frozen" = some (.ref fF)
  k_fz : PySem.W.keepIn K (.ref fF) = true
section
variable {P : Program} {w : World} {K : PySem.W.Frag} {mg : Str → Option Value} {base : Heap}
theorem scFz : FnScope nFz ["_law_thing"] (defScope sFz) := ⟨rfl, rfl, rfl, by decide +kernel, rfl, by decide +kernel, by decide +kernel⟩
theorem scPick : FnScope ["_law_stream", "_law_some"] ["_law_stream", "_law_some"] (defScope sPick) := ⟨rfl, rfl, rfl, by decide +kernel, rfl, by decide +kernel, by decide +kernel⟩
theorem ok_fz {f : Addr} {fd : FuncData} (F : Fun K "_law_m_frozen" "_law_m_frozen" sFz f fd) (T : TxF K mg f) (bF : Binds K fd ["_law_thing"] []) : ∀ n : Nat, FnOk P w K mg base CX0 (n + 1) f fd ["_law_thing"] (spFz n)
  | 0 => by
    refine F.ok scFz (fun vs H Q E h => ?_) (fun cdv A outer s H vs Q E hr h => ?_)
    · obtain ⟨v, d, S, rfl, _⟩ := h
      rfl
    · obtain ⟨v, d, S, rfl, r, _⟩ := h
      exact r.elim
  | n + 1 => by
    have GF := ok_fz F T bF n
    refine F.ok scFz (fun vs H Q E h => ?_) (fun cdv A outer s H vs Q E hr h => ?_)
    · obtain ⟨v, d, S, rfl, _⟩ := h
      rfl
    · obtain ⟨v, d, S, rfl, r, k⟩ := h
      by_cases hs : ∃ b ds, d = .seq b ds
      · obtain ⟨b, ds, rfl⟩ := hs
        obtain ⟨a, us, rfl, ns, ha, hl, hp⟩ := r
        refine ⟨_, (pss_cons (ps_if (pt_val (pe_callB call_isiT (by rfl) T.z_isinstance (by decide +kernel) (pa_cons (pv 0) (pa_cons (pe_tup (pa_cons (pe_bltn (v := .ty "list") (by rfl) T.z_list (by decide +kernel) rfl) (pa_cons (pe_bltn (v := .ty "tuple") (by rfl) T.z_tuple (by decide +kernel) rfl) pa_nil))) pa_nil)))) (pss_one (ps_ret (pe_callTy call_tuple_of (by rfl) T.z_tuple (by decide +kernel) (pa_cons (pe_lc (own := [("_law_one", 1)]) (g := gName 1) (tt := tYes) rfl scFz.nd (PI.or (pi_list (pv 0)) (pi_tup (pv 0))) (blkOk_by (N := nFz) (sc := defScope sFz) (by decide +kernel)) (fun _ _ _ _ _ => pg_name (i := 1) scFz.nd rfl (Or.inl rfl)) (fun _ _ _ _ _ => pts_nil) (fun _ _ _ _ _ => (pe_call GF (hr.mono (by omega)) rfl T.m_fz T.k_fz bF .nil pass0 (pa_cons (pv 1) pa_nil)))) pa_nil)))) pss_nil) pss_never), ?_⟩
        refine ⟨_, rfl, (by show 2 ≤ sizeLine; decide), fun p np => ?_⟩
        have e1 := same_new (o := .tup [.ty "list", .ty "tuple"]) np
        obtain ⟨t, ty, kt, _⟩ := seq_ty (K := K) (e1 _ _ ha)
        refine ⟨_, p, [.ty "list", .ty "tuple"], _, _, true, rfl, upd_same, .cons (.ty _) (.cons (.ty _) .nil), ty, kt, _, rfl, ?_⟩
        generalize upd H p (.tup [.ty "list", .ty "tuple"]) = H1 at e1
        refine iteT ?_
        obtain ⟨J, wk, hJ⟩ := seq_it (K := K) (b := b) (a := a) (us := us)
        refine hJ (tVar 0) _ _ _ ⟨_, rfl, rfl, e1 _ _ ha, fun D nD => ?_⟩ mono_var
        have hD0 : H D = none := e1.free nD
        refine lc_it wk (fun i H3 => ∃ ws, H3 D = some (.lst ws) ∧ ws.length = i ∧ Paired (Rep H3 n NoS) ws ((ds.take i).map (fzN n)) ∧ Same H H3) ⟨[], upd_same, rfl, .nil, fun c o z => by rw [upd_ne (ne_of_none z hD0)]; exact e1 c o z⟩ (fun i H3 _ z => by obtain ⟨_, _, _, _, e3⟩ := z; exact e3 _ _ ha) ?_ ?_
        · rintro i x H3 H3' hi ⟨ws, hD, hl3, hp3, e3⟩ ⟨rfl, hx⟩
          refine ⟨rfl, ?_⟩
          unfold tYes
          refine iteT ?_
          obtain ⟨dx, hdx, rx⟩ := Paired.get hp hx
          refine ⟨_, rfl, x, dx, S, rfl, rx.kp (Kp.of e3), fun y H4 ry e4 => ⟨ws, e4 _ _ hD, Nat.lt_of_le_of_lt (by omega : ws.length ≤ 60) (by decide), ws ++ [y], upd_same, by rw [List.length_append, hl3]; rfl, ?_, ?_⟩⟩
          · have hD4 := e4 _ _ hD
            rw [take_more1 hdx, List.map_append]
            refine Paired.push (Paired.toMap (L2.Paired.mapP (Paired.ofMap hp3) fun _ _ z => Rep.skip hD4 (z.kp (Kp.of e4)))) (Rep.skip hD4 ry)
          · exact fun c o z => by rw [upd_ne (ne_of_none z hD0)]; exact e4 c o (e3 c o z)
        · rintro H3 ⟨ws, hD, hl3, hp3, e3⟩
          rw [show us.length = ds.length from Paired.length hp, List.take_length] at hp3
          refine ⟨D, ws, rfl, .inl ⟨SqL.of hD, fun l nl => ?_⟩⟩
          have e : Same H3 (upd H3 l (.tup ws)) := same_new nl
          exact k (.ref l) _ ⟨l, ws, rfl, id, upd_same, by omega, L2.Paired.mapP hp3 fun _ _ z => z.kp (Kp.of e)⟩ (e3.trans e)
      · refine ⟨_, (pss_cons (ps_if (pt_val (pe_callB call_isiT (by rfl) T.z_isinstance (by decide +kernel) (pa_cons (pv 0) (pa_cons (pe_tup (pa_cons (pe_bltn (v := .ty "list") (by rfl) T.z_list (by decide +kernel) rfl) (pa_cons (pe_bltn (v := .ty "tuple") (by rfl) T.z_tuple (by decide +kernel) rfl) pa_nil))) pa_nil)))) pss_never pss_nil) (pss_one (ps_ret (pv 0)))), ?_⟩
        obtain ⟨t, ty, kt⟩ := notSeq (K := K) hs r
        refine ⟨_, rfl, (by show 2 ≤ sizeLine; decide), fun p np => ?_⟩
        have e1 := same_new (o := .tup [.ty "list", .ty "tuple"]) np
        refine ⟨_, p, [.ty "list", .ty "tuple"], _, _, false, rfl, upd_same, .cons (.ty _) (.cons (.ty _) .nil), ty _ e1, kt, _, rfl, ?_⟩
        refine iteF ?_
        refine ⟨_, rfl, ?_⟩
        have r' : Rep H (n + 1) NoS v (fzN (n + 1) d) := by
          cases d with
          | seq b ds => exact absurd ⟨_, _, rfl⟩ hs
          | leaf x => exact r
          | dct => exact r.sub fun _ z => z.elim
        exact k v _ (r'.kp (Kp.of e1)) e1
def spPick : Sp := fun vs H Q _ => ∃ (a b l : Addr) (xs : List V) (n : Nat), vs = [.ref a, .ref l] ∧ StO H a b n ∧ n ≤ 1000000 ∧ H l = some (.lst xs) ∧ l ≠ a ∧ l ≠ b ∧ 0 < xs.length ∧ xs.length ≤ 60 ∧
  ∀ (v : V) (H' : Hp), v ∈ xs → StO H' a b (n + 1) → Kp (two a b) H H' → Q v H'
theorem ok_pick {f fdr : Addr} {fd ddr : FuncData} (F : Fun K "_law_pick" "_law_pick" sPick f fd) (T : TxW mg) (m_dr : mg "_law_draw" = some (.ref fdr)) (k_dr : PySem.W.keepIn K (.ref fdr) = true) (GD : FnOk P w K mg base CX0 1 fdr ddr ["_law_stream", "_law_many"] spDraw) (bD : Binds K ddr ["_law_stream", "_law_many"] []) :
    FnOk P w K mg base CX0 2 f fd ["_law_stream", "_law_some"] spPick := by
  refine F.ok scPick (fun vs H Q E h => ?_) (fun cdv A outer s H vs Q E hr h => ?_)
  · obtain ⟨a, b, l, xs, n, rfl, _⟩ := h
    rfl
  · obtain ⟨a, b, l, xs, n, rfl, S, hn, hl, la, lb, h0, h60, k⟩ := h
    refine ⟨_, (pss_one (ps_ret (pe_ix ix_list (pv 1) (pe_call GD (hr.mono (by decide)) rfl m_dr k_dr bD .nil pass0 (pa_cons (pv 0) (pa_cons (pe_callB call_len_seq (by rfl) T.z_len (by decide +kernel) (pa_cons (pv 1) pa_nil)) pa_nil))) (fun _ _ => rfl)))), ?_⟩
    refine ⟨_, rfl, _, rfl, _, rfl, l, xs, rfl, .inl (SqL.of hl), a, b, xs.length, n, rfl, S, hn, by omega, by omega, fun i H' hi0 hi S' k' => ?_⟩
    have hl' := k' _ _ hl (fun z => z.elim la lb)
    obtain ⟨j, rfl⟩ := Int.eq_ofNat_of_zero_le hi0
    have hj : j < xs.length := by
      have : ((j : Nat) : Int) < (xs.length : Int) := hi
      omega
    refine ⟨l, xs, _, xs[j], rfl, rfl, SqL.of hl', atI_nat (List.getElem?_eq_getElem hj), ?_⟩
    exact k _ _ (List.getElem_mem hj) S' k'
end
end L2.E2

namespace L2.E2
open PySem PySem.Spec PyProof.Rows L2.Vx L2.Vm
abbrev sMd : Stmt := top 28
abbrev sAk : Stmt := top 29
abbrev nMd : List Str := ["_law_told", "_law_free", "_law_found", "e"]
abbrev nAk : List Str := ["_law_columns", "_law_thing", "_law_found", "e"]
theorem tk0 {X : Cx} : Takes X (fun _ _ _ _ => False) := fun _ _ x => by
  obtain ⟨_, _, _, _, _, _, _, _, _, _, _, _, _, _, _, _, z⟩ := x
  exact z.elim
def dueD : Nat ⊕ List Str → D
  | .inl i => .seq false [.leaf (.str "bad"), .leaf (.int (i : Int))]
  | .inr ns => .seq false [.leaf (.str "made"), .seq true (ns.map fun x => .leaf (.str x))]
theorem goT_inr : ∀ {ds : List D} {ns0 ns : List Str} {i : Nat}, goT ns0 i ds = .inr ns → (∀ x ∈ ns0, isWordS x = true) → (∀ x ∈ ns, isWordS x = true) ∧ ns.length = ns0.length + ds.length
  | [], ns0, ns, i, h, h0 => by
    have e : ns0 = ns := by injection h
    subst e
    exact ⟨h0, rfl⟩
  | d :: r, ns0, ns, i, h, h0 => by
    have h' : (if okT ns0 i d = true then goT (ns0 ++ [nameT d]) (i + 1) r else .inl i) = .inr ns := h
    by_cases hk : okT ns0 i d = true
    · rw [if_pos hk] at h'
      have hT : isTold d = true := by
        unfold okT at hk
        rw [Bool.and_eq_true, Bool.and_eq_true] at hk
        exact hk.2.1
      obtain ⟨b, x, y, rfl, hn, _⟩ := told_form hT
      have hw : isWordS (strOf x) = true := by
        have en := name_str hn
        unfold isName at hn
        rw [Bool.and_eq_true] at hn
        have := hn.1
        rw [en] at this
        exact this
      obtain ⟨g1, g2⟩ := goT_inr h' (fun z hz => by
        rcases List.mem_append.mp hz with hz | hz
        · exact h0 z hz
        · rw [List.mem_singleton.mp hz]; exact hw)
      exact ⟨g1, by rw [g2, List.length_append, List.length_cons, List.length_cons, List.length_nil]; omega⟩
    · rw [if_neg hk] at h'
      cases h'
theorem goF_inr {tn : Nat} : ∀ {ds : List D} {ns0 ns : List Str} {i : Nat}, goF tn ns0 i ds = .inr ns → (∀ x ∈ ns0, isWordS x = true) → (∀ x ∈ ns, isWordS x = true) ∧ ns.length = ns0.length + ds.length
  | [], ns0, ns, i, h, h0 => by
    have e : ns0 = ns := by injection h
    subst e
    exact ⟨h0, rfl⟩
  | d :: r, ns0, ns, i, h, h0 => by
    have h' : (if okF tn ns0 i d = true then goF tn (ns0 ++ [strOf d]) (i + 1) r else .inl (tn + i)) = .inr ns := h
    by_cases hk : okF tn ns0 i d = true
    · rw [if_pos hk] at h'
      have hn : isName d = true := by
        unfold okF at hk
        rw [Bool.and_eq_true, Bool.and_eq_true, Bool.and_eq_true] at hk
        exact hk.2.2.1
      have hw : isWordS (strOf d) = true := by
        have en := name_str hn
        unfold isName at hn
        rw [Bool.and_eq_true] at hn
        have := hn.1
        rw [en] at this
        exact this
      obtain ⟨g1, g2⟩ := goF_inr h' (fun z hz => by
        rcases List.mem_append.mp hz with hz | hz
        · exact h0 z hz
        · rw [List.mem_singleton.mp hz]; exact hw)
      exact ⟨g1, by rw [g2, List.length_append, List.length_cons, List.length_cons, List.length_nil]; omega⟩
    · rw [if_neg hk] at h'
      cases h'
theorem firstW_inr {ds es : List D} {ns : List Str} (h : firstW ds es = .inr ns) : (∀ x ∈ ns, isWordS x = true) ∧ ns.length = ds.length + es.length := by
  unfold firstW at h
  cases e1 : goT [] 0 ds with
  | inl i => rw [e1] at h; cases h
  | inr ns1 =>
    rw [e1] at h
    obtain ⟨a1, a2⟩ := goT_inr e1 (fun _ z => by cases z)
    cases e2 : goF ds.length ns1 0 es with
    | inl i =>
      have h' : (match goF ds.length ns1 0 es with | .inl i => (.inl i : Nat ⊕ List Str) | .inr ns2 => if ns2 = [] then .inl 0 else .inr ns2) = .inr ns := h
      rw [e2] at h'; cases h'
    | inr ns2 =>
      have h' : (match goF ds.length ns1 0 es with | .inl i => (.inl i : Nat ⊕ List Str) | .inr ns2 => if ns2 = [] then .inl 0 else .inr ns2) = .inr ns := h
      rw [e2] at h'
      have h2 : (if ns2 = [] then (.inl 0 : Nat ⊕ List Str) else .inr ns2) = .inr ns := h'
      obtain ⟨b1, b2⟩ := goF_inr e2 a1
      by_cases hn : ns2 = []
      · rw [if_pos hn] at h2; cases h2
      · rw [if_neg hn] at h2
        injection h2 with h2
        subst h2
        exact ⟨b1, by rw [b2, a2]; simp⟩
theorem Two.same {H H' : Hp} {S : Addr → Prop} {n : Nat} {vt vf : V} {bt bf : Bool} {us vs : List V} {ds es : List D} {pt pf : Addr} (t : Two H S n vt vf bt bf us vs ds es pt pf) (e : Same H H') : Two H' S n vt vf bt bf us vs ds es pt pf :=
  ⟨t.et, t.ef, e _ _ t.ht, e _ _ t.hf, t.lt, t.lf, L2.Paired.mapP t.rt fun _ _ z => z.kp (Kp.of e), L2.Paired.mapP t.rf fun _ _ z => z.kp (Kp.of e)⟩
theorem word_len {x : Str} (h : isWordS x = true) : leafy (.str x) = true := by
  unfold isWordS at h
  rw [Bool.and_eq_true] at h
  have := of_decide_eq_true h.1
  exact decide_eq_true (by omega)
theorem rep_words {H : Hp} {S : Addr → Prop} {n : Nat} : ∀ {ns : List Str}, (∀ x ∈ ns, isWordS x = true) → Paired (Rep H (n + 1) S) (ns.map V.str) (ns.map fun x => .leaf (.str x))
  | [], _ => .nil
  | x :: r, h => .cons ⟨rfl, word_len (h x List.mem_cons_self)⟩ (rep_words fun y hy => h y (List.mem_cons_of_mem _ hy))
def spMade : Sp := fun vs H Q _ => ∃ (vt vf : V) (S : Addr → Prop) (n : Nat) (bt bf : Bool) (us ws : List V) (ds es : List D) (pt pf : Addr), vs = [vt, vf] ∧ Two H S n vt vf bt bf us ws ds es pt pf ∧
  ∀ v H', Same H H' → Rep H' 3 NoS v (dueD (firstW ds es)) → Q v H'
def spAsked (C : Addr) : Sp := fun vs H Q _ => ∃ (p : Addr) (ns : List Str) (v : V) (d : D) (S : Addr → Prop) (n : Nat), vs = [.ref p, v] ∧ ColAt H C p ns ∧ Rep H n S v d ∧ isIn ns d = false ∧
  ∀ w H' q, w = .ref q → Same H H' → H q = none → H' q = some (.tup [.str "none", v]) → Q w H'
structure TxM (K : PySem.W.Frag) (mg : Str → Option Value) (C CB CN fi fn ft : Addr) : Prop where
  mkC : Mk K C fi
  gC : mg "Columns" = some (.ref C)
  mNames : Meth K C "names" fn
  mTV : Meth K C "told_values" ft
  exB : PySem.W.exmOne K (.ref CB) (.ref CB) = some true
  exN : PySem.W.exmOne K (.ref CN) (.ref CN) = some true
  xfB : XfC K CB
  xfN : XfC K CN
section
variable {P : Program} {w : World} {K : PySem.W.Frag} {mg : Str → Option Value} {base : Heap}
theorem nofld1 (d : Addr) : ([("_values", V.ref d)] : List (Str × V)).lookup ("names" : Str) = none := by
  show (match ("names" : Str) == ("_values" : Str) with | true => some (V.ref d) | false => none) = none
  rw [show (("names" : Str) == ("_values" : Str)) = false by decide]
theorem nofld2 (d : Addr) : ([("_values", V.ref d)] : List (Str × V)).lookup ("told_values" : Str) = none := by
  show (match ("told_values" : Str) == ("_values" : Str) with | true => some (V.ref d) | false => none) = none
  rw [show (("told_values" : Str) == ("_values" : Str)) = false by decide]
theorem scMd : FnScope nMd ["_law_told", "_law_free"] (defScope sMd) := ⟨rfl, rfl, rfl, by decide +kernel, rfl, by decide +kernel, by decide +kernel⟩
theorem scAk : FnScope nAk ["_law_columns", "_law_thing"] (defScope sAk) := ⟨rfl, rfl, rfl, by decide +kernel, rfl, by decide +kernel, by decide +kernel⟩
theorem ok_made {f C CB CN fB ftold fi fn ft : Addr} {fd di dn : FuncData} (F : Fun K "_law_made_so" "_law_made_so" sMd f fd) (T3 : TxI K mg C CB fB ftold) (T5 : TxM K mg C CB CN fi fn ft)
    (GI : FnOk P w K mg base (L2.CX P w) 4 fi di ["self", "told", "free"] (spInit C CB)) (bI : Binds K di ["self", "told", "free"] []) (Gn : FnOk P w K mg base CX0 1 fn dn ["self"] (spNames C)) (bn : Binds K dn ["self"] []) :
    FnOk P w K mg base CX0 6 f fd ["_law_told", "_law_free"] spMade := by
  refine F.ok scMd (fun vs H Q E h => ?_) (fun cdv A outer s H vs Q E hr h => ?_)
  · obtain ⟨vt, vf, S, n, bt, bf, us, ws, ds, es, pt, pf, rfl, _⟩ := h
    rfl
  · obtain ⟨vt, vf, S, n, bt, bf, us, ws, ds, es, pt, pf, rfl, W2, k⟩ := h
    refine ⟨_, (pss_cons (ps_set (i := 2) scMd.nd rfl (Or.inl rfl) (pe_tup (pa_cons pe_str pa_nil))) (pss_cons (ps_try_as (i := 3) (Wout := fun _ _ _ _ => False) rfl rfl scMd.nd rfl rfl ⟨rfl, by decide, Or.inl T3.gB⟩ tk0 (fun W pn xe tk _ => (pss_one (ps_set (i := 2) scMd.nd rfl (Or.inl rfl) (by exact (pe_tup (pa_cons pe_str (pa_cons (pe_meth0 (pe_makeS T5.mkC GI (hr.mono (by decide)) rfl T5.gC bI (fun σ => passAt tk σ) (pa_cons (pv 0) (pa_cons (pv 1) pa_nil))) T3.cl T5.mNames Gn (hr.mono (by decide)) bn .nil pass0) pa_nil))))))) (fun a oe cls d pn hz hf => (pss_one (ps_set (i := 2) scMd.nd rfl (Or.inl rfl) (by exact (pe_tup (pa_cons pe_str (pa_cons (pe_xf T5.xfB T3.noB hz hf (pv 3)) pa_nil)))))))) (pss_one (ps_ret (pv 2))))), ?_⟩
    refine ⟨by decide, fun t0 nt0 => ?_⟩
    have e0 := same_new (o := .tup [.str "odd"]) nt0
    generalize upd H t0 (.tup [.str "odd"]) = H1 at e0
    refine ⟨_, rfl, _, rfl, fun p dx np ndx hne => ?_⟩
    have W3 := W2.same (e0.trans ((same_new (o := .own p) ndx).trans (same_new (o := .ins C dx []) (by rw [upd_ne (Ne.symm hne)]; exact np))))
    have eA : ∀ {c o}, H c = some o → upd (upd H1 dx (.own p)) p (.ins C dx []) c = some o := fun {c o} z => by
      have z1 := e0 _ _ z
      rw [upd_ne (ne_of_none z1 np), upd_ne (ne_of_none z1 ndx)]
      exact z1
    have pH : ∀ {c o}, H c = some o → c ≠ p := fun {c o} z => ne_of_none (e0 _ _ z) np
    refine ⟨p, dx, vt, vf, S, n, bt, bf, us, ws, ds, es, pt, pf, rfl, upd_same, W3, fun i hi d H' e' hd => ?_, fun ns hns d kvs H' hk hp hd hK nd => ⟨rfl, ?_⟩⟩
    · refine ⟨true, T5.exB, fun _ a na => ?_, fun z => Bool.noConfusion z⟩
      refine ⟨_, rfl, rfl, rfl, d, _, V.int (i : Int), rfl, hd, by simp [List.lookup], (by show 2 ≤ sizeLine; decide), fun q nq => ?_⟩
      refine ⟨_, rfl, ?_⟩
      have e2 : Same H (upd H' q (.tup [.str "bad", .int (i : Int)])) := fun c o z => by
        have z2 := e' _ _ (eA z)
        rw [upd_ne (ne_of_none z2 nq)]
        exact z2
      refine k _ _ e2 ?_
      rw [hi]
      exact ⟨q, _, rfl, id, upd_same, (by show 2 ≤ 60; decide), .cons ⟨rfl, by decide +kernel⟩ (.cons ⟨rfl, rfl⟩ .nil)⟩
    · obtain ⟨hw, hln⟩ := firstW_inr hns
      have hsm : Same H H' := fun c o z => hk c o (eA z) (pH z)
      refine ⟨p, dx, _, rfl, hp, nofld1 d, ?_⟩
      refine ⟨p, ns, rfl, ⟨dx, d, kvs, hp, hd, hK⟩, fun q H2 e2 nq hq => ?_⟩
      refine ⟨(by show 2 ≤ sizeLine; decide), fun r nr => ?_⟩
      have e3 : Same H2 (upd H2 r (.tup [.str "made", .ref q])) := same_new nr
      refine ⟨_, rfl, k _ _ (hsm.trans (e2.trans e3)) ?_⟩
      rw [hns]
      have hl40 := W2.lt
      have hl41 := W2.lf
      have hlu : us.length = ds.length := Paired.length W2.rt
      have hlw : ws.length = es.length := Paired.length W2.rf
      exact ⟨r, _, rfl, id, upd_same, (by show 2 ≤ 60; decide), .cons ⟨rfl, by decide +kernel⟩ (.cons ⟨q, _, rfl, id, e3 _ _ hq, by rw [List.length_map]; omega, rep_words hw⟩ .nil)⟩
theorem ok_asked {f C CB CN fB ftold fi fn ft fN fcon : Addr} {fd dt : FuncData} (F : Fun K "_law_asked" "_law_asked" sAk f fd) (T3 : TxI K mg C CB fB ftold) (T4 : TxJ K mg C CN fN fcon) (T5 : TxM K mg C CB CN fi fn ft)
    (Gt : FnOk P w K mg base (L2.CX P w) 3 ft dt ["self", "name"] (spTV C CN)) (bt : Binds K dt ["self", "name"] []) :
    FnOk P w K mg base CX0 6 f fd ["_law_columns", "_law_thing"] (spAsked C) := by
  refine F.ok scAk (fun vs H Q E h => ?_) (fun cdv A outer s H vs Q E hr h => ?_)
  · obtain ⟨p, ns, v, d, S, n, rfl, _⟩ := h
    rfl
  · obtain ⟨p, ns, v, d, S, n, rfl, hc, r, hi, k⟩ := h
    refine ⟨_, (pss_cons (ps_set (i := 2) scAk.nd rfl (Or.inl rfl) (pe_tup (pa_cons pe_str pa_nil))) (pss_cons (ps_try_as (i := 3) (Wout := fun _ _ _ _ => False) rfl rfl scAk.nd rfl rfl ⟨rfl, by decide, Or.inl T4.gN⟩ tk0 (fun W pn xe tk _ => (pss_one (ps_set (i := 2) scAk.nd rfl (Or.inl rfl) (by exact (pe_tup (pa_cons pe_str (pa_cons (L2.Vm.pe_methS (pv 0) T3.cl T5.mTV Gt (hr.mono (by decide)) bt (fun σ => passAt tk σ) (pa_cons (pv 1) pa_nil)) pa_nil))))))) (fun a oe cls d pn hz hf => (pss_one (ps_set (i := 2) scAk.nd rfl (Or.inl rfl) (by exact (pe_tup (pa_cons pe_str (pa_cons (pe_xf T5.xfN T4.noN hz hf (pv 3)) pa_nil)))))))) (pss_one (ps_ret (pv 2))))), ?_⟩
    refine ⟨by decide, fun t0 nt0 => ?_⟩
    have e0 := same_new (o := .tup [.str "odd"]) nt0
    generalize upd H t0 (.tup [.str "odd"]) = H1 at e0
    obtain ⟨dx, dd, kvs, hp, hd, hk⟩ := hc
    refine ⟨_, rfl, p, dx, _, rfl, e0 _ _ hp, nofld2 dd, ?_⟩
    refine ⟨_, rfl, p, ns, v, d, S, n, rfl, ⟨dx, dd, kvs, e0 _ _ hp, e0 _ _ hd, hk⟩, r.kp (Kp.of e0), hi, fun d2 H' e' hd2 => ?_⟩
    refine ⟨true, T5.exN, fun _ a na => ?_, fun z => Bool.noConfusion z⟩
    refine ⟨_, rfl, rfl, rfl, d2, _, v, rfl, hd2, by simp [List.lookup], (by show 2 ≤ sizeLine; decide), fun q nq => ?_⟩
    exact ⟨_, rfl, k _ _ q rfl (e0.trans (e'.trans (same_new nq))) ((e0.trans e').free nq) upd_same⟩
end
end L2.E2

namespace L2.E2
open PySem PySem.Spec PyProof.Rows L2.Vx
/-! ### things that are written: readings that tell what stands there -/
section
variable {X : Cx} {e : Expr} {es : List Expr} {t t' : TE} {ta ta' : TA} {S : Addr → Prop} {G : St → Hp → Prop} {n : Nat} {d : D} {ds : List D} {pos : Pos}
theorem PE.imp (h : PE X e t) (k : ∀ σ H Q, t' σ H Q → t σ H Q) : PE X e t' := ⟨fun pins s σ H Q I w => h.run pins s σ H Q I (k σ H Q w)⟩
theorem PA.imp (h : PA X es ta) (k : ∀ σ H Q, ta' σ H Q → ta σ H Q) : PA X es ta' := ⟨fun pos pins s σ H Q I w => h.run pos pins s σ H Q I (k σ H Q w)⟩
def Here (S : Addr → Prop) (H : Hp) : Prop := ∀ c, S c → ∃ o, H c = some o
theorem Here.same {H H' : Hp} (h : Here S H) (e : Same H H') : Here S H' := fun c z => let ⟨o, q⟩ := h c z; ⟨o, e _ _ q⟩
theorem Here.not {H : Hp} (h : Here S H) {p : Addr} (np : H p = none) : ¬ S p := fun z => by
  obtain ⟨o, q⟩ := h p z
  rw [np] at q
  cases q
def tDat (S : Addr → Prop) (G : St → Hp → Prop) (n : Nat) (d : D) : TE := fun σ H Q => Here S H ∧ G σ H ∧ ∀ v H', Same H H' → Rep H' n S v d → Q v H'
def tDats (S : Addr → Prop) (G : St → Hp → Prop) (n : Nat) (ds : List D) : TA := fun σ H Q => Here S H ∧ G σ H ∧ ∀ vs H', Same H H' → Paired (Rep H' n S) vs ds → Q vs H'
/-- what is known of the slots stays -/
def Stay (G : St → Hp → Prop) : Prop := ∀ σ H H', Same H H' → G σ H → G σ H'
theorem dat_leaf {v : V} (h : PE X e (tC v)) (lf : leafy v = true) : PE X e (tDat S G (n + 1) (.leaf v)) := PE.imp h fun σ H Q k => k.2.2 v H (Same.refl _) ⟨rfl, lf⟩
theorem dat_var {i : Nat} (h : PE X e (tVar i)) (hg : ∀ σ H, G σ H → ∃ v, σ[i]? = some (some v) ∧ Rep H n S v d) : PE X e (tDat S G n d) := PE.imp h fun σ H Q k => by
  obtain ⟨v, h1, h2⟩ := hg σ H k.2.1
  exact ⟨v, h1, k.2.2 v H (Same.refl _) h2⟩
theorem dats_nil : PA X [] (tDats S G n []) := PA.imp pa_nil fun σ H Q k => k.2.2 [] H (Same.refl _) .nil
theorem dats_cons (st : Stay G) (he : PE X e (tDat S G n d)) (hr : PA X es (tDats S G n ds)) (hs : starEach (e :: es) X.env = (false, eval e X.env) :: starEach es X.env := by rfl) : PA X (e :: es) (tDats S G n (d :: ds)) :=
  PA.imp (pa_cons he hr hs) fun σ H Q k => ⟨k.1, k.2.1, fun v H1 e1 r => ⟨k.1.same e1, st _ _ _ e1 k.2.1, fun vs H2 e2 rs => k.2.2 (v :: vs) H2 (e1.trans e2) (.cons (r.kp (Kp.of e2)) rs)⟩⟩
theorem dat_tup {x1 : _} (h : PA X es (tDats S G n ds)) (hl : ds.length ≤ 60) : PE X (.Tuple es x1 pos) (tDat S G (n + 1) (.seq false ds)) :=
  PE.imp (pe_tup h) fun σ H Q k => ⟨k.1, k.2.1, fun vs H1 e1 rs => ⟨by rw [Paired.length rs, sizeLine_eq]; omega, fun p np => k.2.2 (.ref p) _ (e1.trans (same_new np)) ⟨p, vs, rfl, (k.1.same e1).not np, upd_same, by rw [Paired.length rs]; exact hl, L2.Paired.mapP rs fun _ _ z => z.kp (Kp.of (same_new np))⟩⟩⟩
theorem dat_lst (h : PA X es (tDats S G n ds)) (hl : ds.length ≤ 60) : PE X (.List es pos) (tDat S G (n + 1) (.seq true ds)) :=
  PE.imp (pe_lst h) fun σ H Q k => ⟨k.1, k.2.1, fun vs H1 e1 rs => ⟨by rw [Paired.length rs, sizeLine_eq]; omega, fun p np => k.2.2 (.ref p) _ (e1.trans (same_new np)) ⟨p, vs, rfl, (k.1.same e1).not np, upd_same, by rw [Paired.length rs]; exact hl, L2.Paired.mapP rs fun _ _ z => z.kp (Kp.of (same_new np))⟩⟩⟩
end
theorem Paired.mem {α β : Type} {R : α → β → Prop} : ∀ {xs : List α} {ys : List β} {x : α}, Paired R xs ys → x ∈ xs → ∃ y, y ∈ ys ∧ R x y
  | _, _, _, .nil, h => by cases h
  | _, _, x, .cons r t, h => by
    rcases List.mem_cons.mp h with e | h
    · subst e
      exact ⟨_, List.mem_cons_self, r⟩
    · obtain ⟨y, h1, h2⟩ := Paired.mem t h
      exact ⟨y, List.mem_cons_of_mem _ h1, h2⟩
theorem Kp.wide {S S' : Addr → Prop} {H H' : Hp} (k : Kp S H H') (h : ∀ c, S c → S' c) : Kp S' H H' := fun c o z n => k c o z fun q => n (h c q)
theorem Rep.le {H : Hp} {S : Addr → Prop} {v : V} {d : D} {n : Nat} : ∀ {m : Nat}, n ≤ m → Rep H n S v d → Rep H m S v d
  | 0, h, r => by
    obtain rfl : n = 0 := by omega
    exact r
  | m + 1, h, r => by
    by_cases e : n = m + 1
    · subst e; exact r
    · exact Rep.up (Rep.le (by omega) r)
/-! ### .. as plain data -/
def okV : V → Bool
  | .non => true
  | .bl _ => true
  | .int _ => true
  | .str x => PyData.strOk x
  | _ => false
def pyV : V → PyData
  | .bl b => .bool b
  | .int i => .int i
  | .str x => .str x
  | _ => .none
def okD : Nat → D → Bool
  | 0, _ => false
  | _ + 1, .leaf v => okV v
  | n + 1, .seq _ ds => ds.all (okD n)
  | _ + 1, .dct => false
def pyD : Nat → D → PyData
  | 0, _ => .none
  | _ + 1, .leaf v => pyV v
  | n + 1, .seq true ds => .list (ds.map (pyD n))
  | n + 1, .seq false ds => .tuple (ds.map (pyD n))
  | _ + 1, .dct => .none
theorem dpAll_of {K : PySem.W.Frag} {H : Hp} {R : V → D → Prop} {f : D → PyData} (h : ∀ v d, R v d → Dp K H v (f d)) : ∀ {us : List V} {ds : List D}, Paired R us ds → DpAll K H us (ds.map f)
  | _, _, .nil => .nil
  | _, _, .cons r t => .cons (h _ _ r) (dpAll_of h t)
theorem paired_and {α β : Type} {R : α → β → Prop} {p : β → Bool} : ∀ {us : List α} {ds : List β}, Paired R us ds → ds.all p = true → Paired (fun u d => p d = true ∧ R u d) us ds
  | _, _, .nil, _ => .nil
  | _, _, .cons r t, h => by
    rw [List.all_cons, Bool.and_eq_true] at h
    exact .cons ⟨h.1, r⟩ (paired_and t h.2)
theorem rep_dp {K : PySem.W.Frag} {H : Hp} : ∀ {n : Nat} {S : Addr → Prop} {v : V} {d : D}, okD n d = true → Rep H n S v d → Dp K H v (pyD n d)
  | 0, _, _, _, _, r => r.elim
  | n + 1, S, v, .leaf x, ho, ⟨e, lf⟩ => by
    subst e
    cases v with
    | non => exact .non
    | bl b => exact .bl b
    | int i => exact .int i
    | str x => exact .str x
    | _ => cases lf
  | n + 1, S, v, .seq b ds, ho, ⟨a, us, e, ns, ha, hl, hp⟩ => by
    subst e
    have h2 := dpAll_of (K := K) (f := pyD n) (fun v d (z : okD n d = true ∧ Rep H n S v d) => rep_dp z.1 z.2) (paired_and hp ho)
    cases b with
    | true => exact .lst (SqL.of ha) h2
    | false => exact .tup (SqT.of ha) h2
  | n + 1, S, v, .dct, ho, _ => by cases ho
theorem lay_all {f : D → PyData} {k : Nat} : ∀ {ds : List D}, (∀ d ∈ ds, (f d).canLay0 = true ∧ (f d).depth ≤ k) → PyData.canLayAll0 (ds.map f) = true ∧ PyData.depthAll (ds.map f) ≤ k
  | [], _ => ⟨rfl, Nat.zero_le _⟩
  | d :: r, h => by
    obtain ⟨h1, h2⟩ := h d List.mem_cons_self
    obtain ⟨h3, h4⟩ := lay_all fun y hy => h y (List.mem_cons_of_mem _ hy)
    refine ⟨by simp [PyData.canLayAll0, h1, h3], ?_⟩
    simp [PyData.depthAll]
    omega
theorem lay_d : ∀ {n : Nat} {d : D}, okD n d = true → (pyD n d).canLay0 = true ∧ (pyD n d).depth ≤ n
  | 0, _, h => by cases h
  | n + 1, .leaf v, h => by
    cases v with
    | non => exact ⟨rfl, Nat.zero_le _⟩
    | bl b => exact ⟨rfl, Nat.zero_le _⟩
    | int i => exact ⟨rfl, Nat.zero_le _⟩
    | str x => exact ⟨h, Nat.zero_le _⟩
    | _ => cases h
  | n + 1, .seq b ds, h => by
    obtain ⟨h1, h2⟩ := lay_all (f := pyD n) (k := n) fun d hd => lay_d (List.all_eq_true.mp h d hd)
    cases b with
    | true => exact ⟨by show PyData.canLay0 (.list _) = true; simp [PyData.canLay0, h1], by show PyData.depth (.list _) ≤ _; simp [PyData.depth]; omega⟩
    | false => exact ⟨by show PyData.canLay0 (.tuple _) = true; simp [PyData.canLay0, h1], by show PyData.depth (.tuple _) ≤ _; simp [PyData.depth]; omega⟩
  | n + 1, .dct, h => by cases h
theorem shaped_d {n : Nat} {ds : List D} (hn : n ≤ 60) (h : ds.all (okD n) = true) : SeqAt.shaped (.list (ds.map (pyD n))) = true := by
  obtain ⟨h1, h2⟩ := lay_d (n := n + 1) (d := .seq true ds) h
  show (_ && _) = true
  rw [Bool.and_eq_true]
  exact ⟨h1, decide_eq_true (by have h2' : (PyData.list (ds.map (pyD n))).depth ≤ n + 1 := h2; omega)⟩
theorem eqv_empty (xs : List PyData) : PyData.eqv (.list xs) (.list []) = decide (xs = []) := by
  cases xs with
  | nil => rfl
  | cons x r => rfl
end L2.E2

namespace L2.E2
open PySem PySem.Spec PyProof.Rows L2.Vx
abbrev ls (x : Str) : D := .leaf (.str x)
def menuW : List D := [ls "", ls "A", ls "number", ls "abcdefghi", ls "a b", .leaf (.int 5), .leaf .non, .leaf (.bl true), .seq true [ls "a"], ls "b"]
def menuP (w : D) : List D := [.seq false [w, .seq true [ls "x"]], .seq false [ls "c", .seq true [w]], .seq false [ls "c", .seq true [ls "x", ls "y", ls "x"]], .seq false [ls "c", .seq true []], .seq false [ls "c", ls "ab"]]
def menuQ (p : D) : List D := [p, .seq false [ls "c", .seq true [ls "x", ls "y", ls "z", ls "v"]], .seq false [ls "c"], ls "ab", .leaf .non, .seq false [ls "c", .seq true [ls "x"], .leaf (.int 1)], p]
theorem okD_up : ∀ {n : Nat} {d : D}, okD n d = true → okD (n + 1) d = true
  | 0, _, h => by cases h
  | n + 1, .leaf v, h => h
  | n + 1, .seq b ds, h => List.all_eq_true.mpr fun d hd => okD_up (List.all_eq_true.mp h d hd)
  | n + 1, .dct, h => by cases h
theorem okD_le {n : Nat} {d : D} : ∀ {m : Nat}, n ≤ m → okD n d = true → okD m d = true
  | 0, h, r => by
    obtain rfl : n = 0 := by omega
    exact r
  | m + 1, h, r => by
    by_cases e : n = m + 1
    · subst e; exact r
    · exact okD_up (okD_le (by omega) r)
theorem okW : menuW.all (okD 2) = true := by decide +kernel
theorem okP {w : D} (h : okD 2 w = true) : (menuP w).all (okD 4) = true := by
  have h3 := okD_up h
  have a1 : okD 4 (.seq false [w, .seq true [ls "x"]]) = true := by
    show (okD 3 w && (okD 3 (.seq true [ls "x"]) && true)) = true
    rw [h3]; decide +kernel
  have a2 : okD 4 (.seq false [ls "c", .seq true [w]]) = true := by
    show (okD 3 (ls "c") && ((okD 2 w && true) && true)) = true
    rw [h]; decide +kernel
  unfold menuP
  rw [List.all_cons, a1, List.all_cons, a2]
  decide +kernel
theorem okQ {p : D} (h : okD 4 p = true) : (menuQ p).all (okD 4) = true := by
  unfold menuQ
  simp only [List.all_cons, List.all_nil, h]
  decide +kernel
abbrev S4 (a b pt pf : Addr) : Addr → Prop := fun c => c = a ∨ c = b ∨ c = pt ∨ c = pf
/-- what stands while things are spoilt -/
structure Cel (H : Hp) (a b pt pf : Addr) (n : Nat) (us ws : List V) (ds es : List D) : Prop where
  st : StO H a b n
  ht : H pt = some (.lst us)
  hf : H pf = some (.lst ws)
  tf : pt ≠ pf
  ta : pt ≠ a
  tb : pt ≠ b
  fa : pf ≠ a
  fb : pf ≠ b
  rt : Paired (Rep H 4 (S4 a b pt pf)) us ds
  rf : Paired (Rep H 4 (S4 a b pt pf)) ws es
  ot : ds.all (okD 4) = true
  of : es.all (okD 4) = true
section
variable {H H' : Hp} {a b pt pf : Addr} {n : Nat} {us ws : List V} {ds es : List D}
theorem Cel.same (c : Cel H a b pt pf n us ws ds es) (e : Same H H') : Cel H' a b pt pf n us ws ds es :=
  ⟨c.st.kp e, e _ _ c.ht, e _ _ c.hf, c.tf, c.ta, c.tb, c.fa, c.fb, L2.Paired.mapP c.rt fun _ _ z => z.kp (Kp.of e), L2.Paired.mapP c.rf fun _ _ z => z.kp (Kp.of e), c.ot, c.of⟩
theorem two4 {a b pt pf : Addr} : ∀ c, two a b c → S4 a b pt pf c := fun c z => z.elim .inl fun q => .inr (.inl q)
theorem Cel.kp {m : Nat} (c : Cel H a b pt pf n us ws ds es) (s : StO H' a b m) (k : Kp (two a b) H H') : Cel H' a b pt pf m us ws ds es :=
  ⟨s, k _ _ c.ht fun z => z.elim c.ta c.tb, k _ _ c.hf fun z => z.elim c.fa c.fb, c.tf, c.ta, c.tb, c.fa, c.fb, L2.Paired.mapP c.rt fun _ _ z => z.kp (k.wide two4), L2.Paired.mapP c.rf fun _ _ z => z.kp (k.wide two4), c.ot, c.of⟩
theorem Cel.here (c : Cel H a b pt pf n us ws ds es) : Here (S4 a b pt pf) H := fun q z => by
  obtain ⟨ns, c1, c2, c3, h1, h2, _⟩ := c.st.ex
  rcases z with rfl | rfl | rfl | rfl
  · exact ⟨_, h1⟩
  · exact ⟨_, h2⟩
  · exact ⟨_, c.ht⟩
  · exact ⟨_, c.hf⟩
/-- one of what is written is picked -/
theorem pick_go {k : Nat} {menu : List D} {v : V} {Q : VK} {E : XK} (c : Cel H a b pt pf n us ws ds es) (e1 : Same H H') (r : Rep H' (k + 1) (S4 a b pt pf) v (.seq true menu)) (hn : n ≤ 1000000) (h0 : 0 < menu.length)
    (q : ∀ v H2 d, d ∈ menu → Rep H2 k (S4 a b pt pf) v d → Cel H2 a b pt pf (n + 1) us ws ds es → Kp (S4 a b pt pf) H H2 → Kp (two a b) H' H2 → Q v H2) : spPick [.ref a, v] H' Q E := by
  obtain ⟨l, xs, rfl, nS, hl, h60, hp⟩ := r
  have c1 := c.same e1
  refine ⟨a, b, l, xs, n, rfl, c1.st, hn, hl, fun z => nS (.inl z), fun z => nS (.inr (.inl z)), by rw [Paired.length hp]; exact h0, h60, fun v H2 hv s2 k2 => ?_⟩
  obtain ⟨d, hd, rd⟩ := Paired.mem hp hv
  exact q v H2 d hd (rd.kp (k2.wide two4)) (c1.kp s2 k2) ((Kp.of e1).trans (k2.wide two4)) k2
theorem Paired.set {α β : Type} {R : α → β → Prop} {x : α} {y : β} (r : R x y) : ∀ {xs : List α} {ys : List β} {j : Nat}, Paired R xs ys → Paired R (xs.set j x) (ys.set j y)
  | _, _, _, .nil => .nil
  | _, _, 0, .cons _ t => .cons r t
  | _, _, j + 1, .cons h t => .cons h (Paired.set r t)
theorem Paired.put {α β : Type} {R : α → β → Prop} {x : α} {y : β} (r : R x y) : ∀ {xs : List α} {ys : List β} {j : Nat}, Paired R xs ys → Paired R (xs.take j ++ [x] ++ xs.drop j) (ys.take j ++ [y] ++ ys.drop j)
  | _, _, 0, h => .cons r h
  | _, _, j + 1, .nil => .cons r .nil
  | _, _, j + 1, .cons h t => .cons h (Paired.put r t)
theorem all_set {p : D → Bool} {d : D} {ds : List D} {j : Nat} (h : ds.all p = true) (hd : p d = true) : (ds.set j d).all p = true :=
  List.all_eq_true.mpr fun x hx => by
    rcases List.mem_or_eq_of_mem_set hx with z | z
    · exact List.all_eq_true.mp h x z
    · rw [z]; exact hd
theorem all_put {p : D → Bool} {d : D} {ds : List D} {j : Nat} (h : ds.all p = true) (hd : p d = true) : (ds.take j ++ [d] ++ ds.drop j).all p = true :=
  List.all_eq_true.mpr fun x hx => by
    rcases List.mem_append.mp hx with hx | hx
    · rcases List.mem_append.mp hx with hx | hx
      · exact List.all_eq_true.mp h x (List.mem_of_mem_take hx)
      · rw [List.mem_singleton.mp hx]; exact hd
    · exact List.all_eq_true.mp h x (List.mem_of_mem_drop hx)
theorem upd_kp {p : Addr} {o : HO} {S : Addr → Prop} (h : S p) : Kp S H (upd H p o) := fun c u z n => by
  have q : c ≠ p := fun e => n (by rw [e]; exact h)
  rw [upd_ne q]
  exact z
theorem StO.upd (s : StO H a b n) {p : Addr} {o : HO} (pa : p ≠ a) (pb : p ≠ b) : StO (upd H p o) a b n := by
  obtain ⟨ns, c1, c2, c3, h1, h2, h⟩ := s.ex
  exact ⟨ns, c1, c2, c3, by rw [upd_ne (Ne.symm pa)]; exact h1, by rw [upd_ne (Ne.symm pb)]; exact h2, h⟩
theorem Cel.free (c : Cel H a b pt pf n us ws ds es) {ws' : List V} {es' : List D} (r : Paired (Rep H 4 (S4 a b pt pf)) ws' es') (o : es'.all (okD 4) = true) : Cel (upd H pf (.lst ws')) a b pt pf n us ws' ds es' :=
  have k : Kp (S4 a b pt pf) H (upd H pf (.lst ws')) := upd_kp (.inr (.inr (.inr rfl)))
  ⟨c.st.upd c.fa c.fb, by rw [upd_ne c.tf]; exact c.ht, upd_same, c.tf, c.ta, c.tb, c.fa, c.fb, L2.Paired.mapP c.rt fun _ _ z => z.kp k, L2.Paired.mapP r fun _ _ z => z.kp k, c.ot, o⟩
theorem Cel.told (c : Cel H a b pt pf n us ws ds es) {us' : List V} {ds' : List D} (r : Paired (Rep H 4 (S4 a b pt pf)) us' ds') (o : ds'.all (okD 4) = true) : Cel (upd H pt (.lst us')) a b pt pf n us' ws ds' es :=
  have k : Kp (S4 a b pt pf) H (upd H pt (.lst us')) := upd_kp (.inr (.inr (.inl rfl)))
  ⟨c.st.upd c.ta c.tb, upd_same, by rw [upd_ne (Ne.symm c.tf)]; exact c.hf, c.tf, c.ta, c.tb, c.fa, c.fb, L2.Paired.mapP r fun _ _ z => z.kp k, L2.Paired.mapP c.rf fun _ _ z => z.kp k, o, c.of⟩
end
def spSpoilt : Sp := fun vs H Q _ => ∃ (a b pt pf : Addr) (n : Nat) (us ws : List V) (ds es : List D), vs = [.ref a, .ref pt, .ref pf] ∧ Cel H a b pt pf n us ws ds es ∧ n ≤ 900000 ∧ us.length ≤ 15 ∧ ws.length ≤ 15 ∧
  ∀ us' ws' ds' es' H', Cel H' a b pt pf (n + 6) us' ws' ds' es' → us'.length ≤ us.length + 1 → ws'.length ≤ ws.length + 1 → Kp (S4 a b pt pf) H H' → Q .non H'
end L2.E2

namespace L2.E2
open PySem PySem.Spec PyProof.Rows L2.Vx
abbrev sSp : Stmt := top 27
abbrev nSp : List Str := ["_law_stream", "_law_told", "_law_free", "_law_word", "_law_pair", "_law_way"]
def slotV (S : Addr → Prop) (i n : Nat) (d : D) : St → Hp → Prop := fun σ H => ∃ v, σ[i]? = some (some v) ∧ Rep H n S v d
theorem stay0 : Stay (fun _ _ => True) := fun _ _ _ _ _ => trivial
theorem stayV {S : Addr → Prop} {n : Nat} {d : D} (i : Nat) : Stay (slotV S i n d) := fun _ _ _ e ⟨v, h, r⟩ => ⟨v, h, r.kp (Kp.of e)⟩
theorem varV {S : Addr → Prop} {i n m : Nat} {d : D} (h : n ≤ m := by decide) : ∀ σ H, slotV S i n d σ H → ∃ v, σ[i]? = some (some v) ∧ Rep H m S v d := fun _ _ ⟨v, e, r⟩ => ⟨v, e, r.le h⟩
theorem ixN_in {n : Nat} {i : Int} (h0 : 0 ≤ i) (h : i < n) : ixN n i = some i.toNat := by
  unfold ixN
  rw [if_pos h0, if_pos h]
theorem Cel.le {H : Hp} {a b pt pf : Addr} {n m : Nat} {us ws : List V} {ds es : List D} (c : Cel H a b pt pf n us ws ds es) (h : n ≤ m) : Cel H a b pt pf m us ws ds es := { c with st := c.st.le h }
theorem pss_ex {X : Cx} {st : List Stmt} {α : Type} {t : α → TS} (h : ∀ w, PSs X st (t w)) : PSs X st (fun D σ H => ∃ w, t w D σ H) := ⟨fun pins s σ H D I q => q.elim fun w z => (h w).run pins s σ H D I z⟩
section
variable {P : Program} {w' : World} {K : PySem.W.Frag} {mg : Str → Option Value} {base : Heap}
theorem scSp : FnScope nSp ["_law_stream", "_law_told", "_law_free"] (defScope sSp) := ⟨rfl, rfl, rfl, by decide +kernel, rfl, by decide +kernel, by decide +kernel⟩
theorem ok_sp {f fpk fdr : Addr} {fd dpk ddr : FuncData} (F : Fun K "_law_spoilt" "_law_spoilt" sSp f fd) (T : TxW mg) (m_dr : mg "_law_draw" = some (.ref fdr)) (k_dr : PySem.W.keepIn K (.ref fdr) = true) (m_pk : mg "_law_pick" = some (.ref fpk)) (k_pk : PySem.W.keepIn K (.ref fpk) = true)
    (Gdr : FnOk P w' K mg base CX0 1 fdr ddr ["_law_stream", "_law_many"] spDraw) (bdr : Binds K ddr ["_law_stream", "_law_many"] []) (Gpk : FnOk P w' K mg base CX0 2 fpk dpk ["_law_stream", "_law_some"] spPick) (bpk : Binds K dpk ["_law_stream", "_law_some"] []) :
    FnOk P w' K mg base CX0 3 f fd ["_law_stream", "_law_told", "_law_free"] spSpoilt := by
  refine F.ok scSp (fun vs H Q E h => ?_) (fun cdv A outer s H vs Q E hr h => ?_)
  · obtain ⟨a, b, pt, pf, n, us, ws, ds, es, rfl, _⟩ := h
    rfl
  · obtain ⟨a, b, pt, pf, n, us, ws, ds, es, rfl, c, hn, hlu, hlw, k⟩ := h
    refine ⟨_, (pss_cons (ps_set (i := 3) scSp.nd rfl (Or.inl rfl) (pe_call Gpk (hr.mono (by decide)) rfl m_pk k_pk bpk .nil pass0 (pa_cons (pv 0) (pa_cons (show PE _ _ (tDat (S4 a b pt pf) (fun _ _ => True) (2 + 1) (.seq true menuW)) from by exact (dat_lst (dats_cons stay0 (dat_leaf pe_str (by decide +kernel)) (dats_cons stay0 (dat_leaf pe_str (by decide +kernel)) (dats_cons stay0 (dat_leaf pe_str (by decide +kernel)) (dats_cons stay0 (dat_leaf pe_str (by decide +kernel)) (dats_cons stay0 (dat_leaf pe_str (by decide +kernel)) (dats_cons stay0 (dat_leaf pe_int (by decide +kernel)) (dats_cons stay0 (dat_leaf pe_non (by decide +kernel)) (dats_cons stay0 (dat_leaf pe_bl (by decide +kernel)) (dats_cons stay0 (dat_lst (dats_cons stay0 (dat_leaf pe_str (by decide +kernel)) dats_nil) (Nat.le_of_ble_eq_true rfl)) (dats_cons stay0 (dat_leaf pe_str (by decide +kernel)) dats_nil)))))))))) (Nat.le_of_ble_eq_true rfl))) pa_nil)))) (pss_ex fun w => (pss_cons (ps_set (i := 4) scSp.nd rfl (Or.inl rfl) (pe_call Gpk (hr.mono (by decide)) rfl m_pk k_pk bpk .nil pass0 (pa_cons (pv 0) (pa_cons (show PE _ _ (tDat (S4 a b pt pf) (slotV (S4 a b pt pf) 3 2 w) (4 + 1) (.seq true (menuP w))) from by exact (dat_lst (dats_cons (stayV 3) (dat_tup (dats_cons (stayV 3) (dat_var (pv 3) varV) (dats_cons (stayV 3) (dat_lst (dats_cons (stayV 3) (dat_leaf pe_str (by decide +kernel)) dats_nil) (Nat.le_of_ble_eq_true rfl)) dats_nil)) (Nat.le_of_ble_eq_true rfl)) (dats_cons (stayV 3) (dat_tup (dats_cons (stayV 3) (dat_leaf pe_str (by decide +kernel)) (dats_cons (stayV 3) (dat_lst (dats_cons (stayV 3) (dat_var (pv 3) varV) dats_nil) (Nat.le_of_ble_eq_true rfl)) dats_nil)) (Nat.le_of_ble_eq_true rfl)) (dats_cons (stayV 3) (dat_tup (dats_cons (stayV 3) (dat_leaf pe_str (by decide +kernel)) (dats_cons (stayV 3) (dat_lst (dats_cons (stayV 3) (dat_leaf pe_str (by decide +kernel)) (dats_cons (stayV 3) (dat_leaf pe_str (by decide +kernel)) (dats_cons (stayV 3) (dat_leaf pe_str (by decide +kernel)) dats_nil))) (Nat.le_of_ble_eq_true rfl)) dats_nil)) (Nat.le_of_ble_eq_true rfl)) (dats_cons (stayV 3) (dat_tup (dats_cons (stayV 3) (dat_leaf pe_str (by decide +kernel)) (dats_cons (stayV 3) (dat_lst dats_nil (Nat.le_of_ble_eq_true rfl)) dats_nil)) (Nat.le_of_ble_eq_true rfl)) (dats_cons (stayV 3) (dat_tup (dats_cons (stayV 3) (dat_leaf pe_str (by decide +kernel)) (dats_cons (stayV 3) (dat_leaf pe_str (by decide +kernel)) dats_nil)) (Nat.le_of_ble_eq_true rfl)) dats_nil))))) (Nat.le_of_ble_eq_true rfl))) pa_nil)))) (pss_ex fun p => (pss_cons (ps_set (i := 4) scSp.nd rfl (Or.inl rfl) (pe_call Gpk (hr.mono (by decide)) rfl m_pk k_pk bpk .nil pass0 (pa_cons (pv 0) (pa_cons (show PE _ _ (tDat (S4 a b pt pf) (slotV (S4 a b pt pf) 4 4 p) (4 + 1) (.seq true (menuQ p))) from by exact (dat_lst (dats_cons (stayV 4) (dat_var (pv 4) varV) (dats_cons (stayV 4) (dat_tup (dats_cons (stayV 4) (dat_leaf pe_str (by decide +kernel)) (dats_cons (stayV 4) (dat_lst (dats_cons (stayV 4) (dat_leaf pe_str (by decide +kernel)) (dats_cons (stayV 4) (dat_leaf pe_str (by decide +kernel)) (dats_cons (stayV 4) (dat_leaf pe_str (by decide +kernel)) (dats_cons (stayV 4) (dat_leaf pe_str (by decide +kernel)) dats_nil)))) (Nat.le_of_ble_eq_true rfl)) dats_nil)) (Nat.le_of_ble_eq_true rfl)) (dats_cons (stayV 4) (dat_tup (dats_cons (stayV 4) (dat_leaf pe_str (by decide +kernel)) dats_nil) (Nat.le_of_ble_eq_true rfl)) (dats_cons (stayV 4) (dat_leaf pe_str (by decide +kernel)) (dats_cons (stayV 4) (dat_leaf pe_non (by decide +kernel)) (dats_cons (stayV 4) (dat_tup (dats_cons (stayV 4) (dat_leaf pe_str (by decide +kernel)) (dats_cons (stayV 4) (dat_lst (dats_cons (stayV 4) (dat_leaf pe_str (by decide +kernel)) dats_nil) (Nat.le_of_ble_eq_true rfl)) (dats_cons (stayV 4) (dat_leaf pe_int (by decide +kernel)) dats_nil))) (Nat.le_of_ble_eq_true rfl)) (dats_cons (stayV 4) (dat_var (pv 4) varV) dats_nil))))))) (Nat.le_of_ble_eq_true rfl))) pa_nil)))) (pss_cons (ps_set (i := 5) scSp.nd rfl (Or.inl rfl) (pe_call Gdr (hr.mono (by decide)) rfl m_dr k_dr bdr .nil pass0 (pa_cons (pv 0) (pa_cons pe_int pa_nil)))) (pss_one (ps_if (PW.pt (pw_and (pt_cmpR op_eq (pv 5) pe_int (nomark _)) (pw_and1 (pt_cmpR (op_neD hr.units) (pv 2) (pe_lst pa_nil) (nomark _))))) (pss_one (ps_asg (pv 3) (pg_sub (pv 2) (pe_call Gdr (hr.mono (by decide)) rfl m_dr k_dr bdr .nil pass0 (pa_cons (pv 0) (pa_cons (pe_callB call_len_seq (by rfl) T.z_len (by decide +kernel) (pa_cons (pv 2) pa_nil)) pa_nil))) set_list))) (pss_one (ps_if (pt_cmpR op_eq (pv 5) pe_int (nomark _)) (pss_one (ps_expr (pe_bm PySem.F.plainAttrs_list PySem.F.slot_list_insert PySem.F.type_list_insert mt_insert (pv 2) (pa_cons (pe_call Gdr (hr.mono (by decide)) rfl m_dr k_dr bdr .nil pass0 (pa_cons (pv 0) (pa_cons (pe_op op_add (pe_callB call_len_seq (by rfl) T.z_len (by decide +kernel) (pa_cons (pv 2) pa_nil)) pe_int) pa_nil))) (pa_cons (pe_call Gpk (hr.mono (by decide)) rfl m_pk k_pk bpk .nil pass0 (pa_cons (pv 0) (pa_cons (show PE _ _ (tDat (S4 a b pt pf) (slotV (S4 a b pt pf) 3 2 w) (4 + 1) (.seq true [ls "b", ls "d", w])) from by exact (dat_lst (dats_cons (stayV 3) (dat_leaf pe_str (by decide +kernel)) (dats_cons (stayV 3) (dat_leaf pe_str (by decide +kernel)) (dats_cons (stayV 3) (dat_var (pv 3) varV) dats_nil))) (Nat.le_of_ble_eq_true rfl))) pa_nil))) pa_nil))))) (pss_one (ps_if (PW.pt (pw_and (pt_cmpR op_eq (pv 5) pe_int (nomark _)) (pw_and1 (pt_cmpR (op_neD hr.units) (pv 1) (pe_lst pa_nil) (nomark _))))) (pss_one (ps_asg (pv 4) (pg_sub (pv 1) (pe_call Gdr (hr.mono (by decide)) rfl m_dr k_dr bdr .nil pass0 (pa_cons (pv 0) (pa_cons (pe_callB call_len_seq (by rfl) T.z_len (by decide +kernel) (pa_cons (pv 1) pa_nil)) pa_nil))) set_list))) (pss_one (ps_expr (pe_bm PySem.F.plainAttrs_list PySem.F.slot_list_insert PySem.F.type_list_insert mt_insert (pv 1) (pa_cons (pe_call Gdr (hr.mono (by decide)) rfl m_dr k_dr bdr .nil pass0 (pa_cons (pv 0) (pa_cons (pe_op op_add (pe_callB call_len_seq (by rfl) T.z_len (by decide +kernel) (pa_cons (pv 1) pa_nil)) pe_int) pa_nil))) (pa_cons (pv 4) pa_nil))))))))))))))))), ?_⟩
    -- word
    refine ⟨_, rfl, c.here, trivial, fun l1 H1 e1 r1 => pick_go (E := E0) c e1 r1 (by omega) (by decide) fun vw H2 w hw rw_ c2 k2 _ => ?_⟩
    refine ⟨w, ?_⟩
    have ow := List.all_eq_true.mp okW w hw
    have opm := okP ow
    -- pair
    refine ⟨_, rfl, c2.here, ⟨vw, rfl, rw_⟩, fun l3 H3 e3 r3 => pick_go (E := E0) c2 e3 r3 (by omega) (Nat.succ_pos _) fun vp H4 p hp rp c4 k4 k4' => ?_⟩
    refine ⟨p, ?_⟩
    have op := List.all_eq_true.mp opm p hp
    have rw4 := rw_.kp ((Kp.of e3 : Kp (S4 a b pt pf) H2 H3).trans (k4'.wide two4))
    refine ⟨_, rfl, c4.here, ⟨vp, rfl, rp⟩, fun l5 H5 e5 r5 => pick_go (E := E0) c4 e5 r5 (by omega) (Nat.succ_pos _) fun vq H6 q hq rq c6 k6 k6' => ?_⟩
    have oq := List.all_eq_true.mp (okQ op) q hq
    have rw6 := rw4.kp ((Kp.of e5 : Kp (S4 a b pt pf) H4 H5).trans (k6'.wide two4))
    have k06 : Kp (S4 a b pt pf) H H6 := k2.trans (k4.trans k6)
    -- way
    refine ⟨_, rfl, a, b, 4, _, rfl, c6.st, (by omega), (by decide), (by decide), fun d H7 hd0 hd4 s7 k7 => ?_⟩
    have c7 := c6.kp s7 k7
    have rw7 := rw6.kp (k7.wide two4)
    have rq7 := rq.kp (k7.wide two4)
    have k07 : Kp (S4 a b pt pf) H H7 := k06.trans (k7.wide two4)
    refine ⟨_, rfl, rfl, _, rfl, ?_⟩
    by_cases hd : d = 0
    · rw [decide_eq_true (show V.int d = V.int 0 by rw [hd])]
      refine iteT ?_
      refine ⟨_, rfl, (by show 0 ≤ sizeLine; decide), fun p0 np0 => ?_⟩
      have e8 : Same H7 (upd H7 p0 (.lst [])) := same_new np0
      refine ⟨_, _, .lst (SqL.of (e8 _ _ c7.hf)) (dpAll_of (f := pyD 4) (fun v d (z : okD 4 d = true ∧ Rep H7 4 (S4 a b pt pf) v d) => rep_dp z.1 (z.2.kp (Kp.of e8))) (paired_and c7.rf c7.of)), .lst (SqL.of upd_same) .nil, shaped_d (by decide) c7.of, (by decide), _, rfl, ?_⟩
      rw [eqv_empty]
      generalize upd H7 p0 (.lst []) = H8 at e8
      by_cases hes : es.map (pyD 4) = []
      · rw [decide_eq_true hes]
        refine iteF ?_
        refine ⟨_, rfl, rfl, _, rfl, ?_⟩
        rw [decide_eq_false (show ¬ V.int d = V.int 1 by intro z; injection z with z; omega)]
        refine iteF ?_
        refine ⟨_, rfl, rfl, _, rfl, ?_⟩
        rw [decide_eq_false (show ¬ V.int d = V.int 2 by intro z; injection z with z; omega)]
        refine iteF ?_
        have c8 := c7.same e8
        refine ⟨_, rfl, .inl ⟨rfl, _, SqL.of c8.ht⟩, _, rfl, _, rfl, pt, us, rfl, .inl (SqL.of c8.ht), _, _, rfl, rfl, a, b, _, _, rfl, c8.st, (by omega), (by omega), (by omega), fun i H9 hi0 hi s9 k9 => ?_⟩
        have c9 := c8.kp s9 k9
        have rq9 := (rq7.kp (Kp.of e8)).kp (k9.wide two4)
        refine ⟨_, rfl, pt, us, i, vq, rfl, rfl, c9.ht, (by rw [sizeLine_eq]; omega), hi0, (by omega), ?_⟩
        exact k _ _ _ _ _ ((c9.told (Paired.put rq9 c9.rt) (all_put c9.ot oq)).le (by omega)) (by rw [List.length_append, List.length_append, List.length_take, List.length_drop, List.length_singleton]; omega) (by omega) (k07.trans ((Kp.of e8).trans ((k9.wide two4).trans (upd_kp (.inr (.inr (.inl rfl)))))))
      · rw [decide_eq_false hes]
        refine iteT ?_
        have hz : 0 < ws.length := by
          have hl : ws.length = es.length := Paired.length c7.rf
          cases es with
          | nil => exact absurd rfl hes
          | cons x r => rw [hl]; exact Nat.succ_pos _
        have c8 := c7.same e8
        refine ⟨_, rfl, _, rfl, _, rfl, _, rfl, pf, ws, rfl, .inl (SqL.of c8.hf), a, b, _, _, rfl, c8.st, (by omega), (by omega), (by omega), fun i H9 hi0 hi s9 k9 => ?_⟩
        have c9 := c8.kp s9 k9
        have rw9 := ((rw7.kp (Kp.of e8)).kp (k9.wide two4)).le (m := 4) (by decide)
        refine ⟨pf, ws, i, i.toNat, rfl, rfl, c9.hf, ixN_in hi0 hi, ?_⟩
        exact k _ _ _ _ _ ((c9.free (Paired.set rw9 c9.rf) (all_set c9.of (okD_le (by decide) ow))).le (by omega)) (by omega) (by rw [List.length_set]; omega) (k07.trans ((Kp.of e8).trans ((k9.wide two4).trans (upd_kp (.inr (.inr (.inr rfl)))))))
    · rw [decide_eq_false (show ¬ V.int d = V.int 0 by intro z; injection z with z; omega)]
      refine iteF ?_
      refine ⟨_, rfl, rfl, _, rfl, ?_⟩
      by_cases hd : d = 1
      · rw [decide_eq_true (show V.int d = V.int 1 by rw [hd])]
        refine iteT ?_
        have c8 := c7
        refine ⟨_, rfl, .inl ⟨rfl, _, SqL.of c8.hf⟩, _, rfl, _, rfl, pf, ws, rfl, .inl (SqL.of c8.hf), _, _, rfl, rfl, a, b, _, _, rfl, c8.st, (by omega), (by omega), (by omega), fun i H9 hi0 hi s9 k9 => ?_⟩
        have c9 := c8.kp s9 k9
        have rw9 := rw7.kp (k9.wide two4)
        refine ⟨_, rfl, c9.here, ⟨vw, rfl, rw9⟩, fun lA HA eA rA => pick_go (E := E0) c9 eA rA (by omega) (Nat.succ_pos _) fun vx HB x hx rx cB kB _ => ?_⟩
        have ox : okD 4 x = true := by
          have hall : [ls "b", ls "d", w].all (okD 4) = true := by
            show (okD 4 (ls "b") && (okD 4 (ls "d") && (okD 4 w && true))) = true
            rw [okD_le (m := 4) (by decide) ow]
            decide +kernel
          exact List.all_eq_true.mp hall x hx
        refine ⟨pf, ws, i, vx, rfl, rfl, cB.hf, (by rw [sizeLine_eq]; omega), hi0, (by omega), ?_⟩
        exact k _ _ _ _ _ ((cB.free (Paired.put rx cB.rf) (all_put cB.of ox)).le (by omega)) (by omega) (by rw [List.length_append, List.length_append, List.length_take, List.length_drop, List.length_singleton]; omega) (k07.trans ((k9.wide two4).trans (kB.trans (upd_kp (.inr (.inr (.inr rfl)))))))
      · rw [decide_eq_false (show ¬ V.int d = V.int 1 by intro z; injection z with z; omega)]
        refine iteF ?_
        refine ⟨_, rfl, rfl, _, rfl, ?_⟩
        by_cases hd : d = 2
        · rw [decide_eq_true (show V.int d = V.int 2 by rw [hd])]
          refine iteT ?_
          refine ⟨_, rfl, (by show 0 ≤ sizeLine; decide), fun p0 np0 => ?_⟩
          have e8 : Same H7 (upd H7 p0 (.lst [])) := same_new np0
          refine ⟨_, _, .lst (SqL.of (e8 _ _ c7.ht)) (dpAll_of (f := pyD 4) (fun v d (z : okD 4 d = true ∧ Rep H7 4 (S4 a b pt pf) v d) => rep_dp z.1 (z.2.kp (Kp.of e8))) (paired_and c7.rt c7.ot)), .lst (SqL.of upd_same) .nil, shaped_d (by decide) c7.ot, (by decide), _, rfl, ?_⟩
          rw [eqv_empty]
          generalize upd H7 p0 (.lst []) = H8 at e8
          by_cases hds : ds.map (pyD 4) = []
          · rw [decide_eq_true hds]
            refine iteF ?_
            have c8 := c7.same e8
            refine ⟨_, rfl, .inl ⟨rfl, _, SqL.of c8.ht⟩, _, rfl, _, rfl, pt, us, rfl, .inl (SqL.of c8.ht), _, _, rfl, rfl, a, b, _, _, rfl, c8.st, (by omega), (by omega), (by omega), fun i H9 hi0 hi s9 k9 => ?_⟩
            have c9 := c8.kp s9 k9
            have rq9 := (rq7.kp (Kp.of e8)).kp (k9.wide two4)
            refine ⟨_, rfl, pt, us, i, vq, rfl, rfl, c9.ht, (by rw [sizeLine_eq]; omega), hi0, (by omega), ?_⟩
            exact k _ _ _ _ _ ((c9.told (Paired.put rq9 c9.rt) (all_put c9.ot oq)).le (by omega)) (by rw [List.length_append, List.length_append, List.length_take, List.length_drop, List.length_singleton]; omega) (by omega) (k07.trans ((Kp.of e8).trans ((k9.wide two4).trans (upd_kp (.inr (.inr (.inl rfl)))))))
          · rw [decide_eq_false hds]
            refine iteT ?_
            have hz : 0 < us.length := by
              have hl : us.length = ds.length := Paired.length c7.rt
              cases ds with
              | nil => exact absurd rfl hds
              | cons x r => rw [hl]; exact Nat.succ_pos _
            have c8 := c7.same e8
            refine ⟨_, rfl, _, rfl, _, rfl, _, rfl, pt, us, rfl, .inl (SqL.of c8.ht), a, b, _, _, rfl, c8.st, (by omega), (by omega), (by omega), fun i H9 hi0 hi s9 k9 => ?_⟩
            have c9 := c8.kp s9 k9
            have rq9 := (rq7.kp (Kp.of e8)).kp (k9.wide two4)
            refine ⟨pt, us, i, i.toNat, rfl, rfl, c9.ht, ixN_in hi0 hi, ?_⟩
            exact k _ _ _ _ _ ((c9.told (Paired.set rq9 c9.rt) (all_set c9.ot oq)).le (by omega)) (by rw [List.length_set]; omega) (by omega) (k07.trans ((Kp.of e8).trans ((k9.wide two4).trans (upd_kp (.inr (.inr (.inl rfl)))))))
        · rw [decide_eq_false (show ¬ V.int d = V.int 2 by intro z; injection z with z; omega)]
          refine iteF ?_
          have e8 : Same H7 H7 := Same.refl _
          have c8 := c7.same e8
          refine ⟨_, rfl, .inl ⟨rfl, _, SqL.of c8.ht⟩, _, rfl, _, rfl, pt, us, rfl, .inl (SqL.of c8.ht), _, _, rfl, rfl, a, b, _, _, rfl, c8.st, (by omega), (by omega), (by omega), fun i H9 hi0 hi s9 k9 => ?_⟩
          have c9 := c8.kp s9 k9
          have rq9 := (rq7.kp (Kp.of e8)).kp (k9.wide two4)
          refine ⟨_, rfl, pt, us, i, vq, rfl, rfl, c9.ht, (by rw [sizeLine_eq]; omega), hi0, (by omega), ?_⟩
          exact k _ _ _ _ _ ((c9.told (Paired.put rq9 c9.rt) (all_put c9.ot oq)).le (by omega)) (by rw [List.length_append, List.length_append, List.length_take, List.length_drop, List.length_singleton]; omega) (by omega) (k07.trans ((Kp.of e8).trans ((k9.wide two4).trans (upd_kp (.inr (.inr (.inl rfl)))))))
end
end L2.E2

namespace L2.E2
open PySem PySem.Spec PyProof.Rows L2.Vx
abbrev sLaw : Stmt := top 30
abbrev nLaw : List Str := ["_law_script", "_law_stream", "_law_turn", "_law_told", "_law_free", "_law_k", "_law_first", "_law_names", "_law_due", "_law_given", "_law_columns", "_law_thing"]
def menuT : List D := [.seq true [], .seq true [.seq false [ls "a", .seq true [ls "x"]]], .seq true [.seq false [ls "a", .seq false [ls "x", ls "y"]], .seq false [ls "e", .seq true [ls "y", ls "x", ls "z"]]]]
def menuA : List D := [ls "", ls "x", ls "number", .leaf (.int 5), .leaf .non, .leaf (.bl true), .seq true [ls "a"], .seq false [ls "a"], .dct, ls "A", ls "ab"]
def menuF : List D := [.seq true [], .seq true [ls "b"], .seq true [ls "b", ls "f"]]
theorem scLaw : FnScope nLaw ["_law_script"] (defScope sLaw) := ⟨rfl, rfl, rfl, by decide +kernel, rfl, by decide +kernel, by decide +kernel⟩
/-! ### which of the two a pair is written as does not matter -/
def flip1 : D → D
  | .seq _ ds => .seq true ds
  | d => d
theorem told_flip : ∀ d : D, isTold (flip1 d) = isTold d
  | .leaf _ => rfl
  | .dct => rfl
  | .seq _ [] => rfl
  | .seq _ [_] => rfl
  | .seq _ [_, _] => rfl
  | .seq _ (_ :: _ :: _ :: _) => rfl
theorem name_flip : ∀ d : D, nameT (flip1 d) = nameT d
  | .leaf _ => rfl
  | .dct => rfl
  | .seq _ [] => rfl
  | .seq _ (_ :: _) => rfl
theorem goT_flip : ∀ (ds : List D) (ns : List Str) (i : Nat), goT ns i (ds.map flip1) = goT ns i ds
  | [], _, _ => rfl
  | d :: r, ns, i => by
    show (if okT ns i (flip1 d) = true then goT (ns ++ [nameT (flip1 d)]) (i + 1) (r.map flip1) else .inl i) = (if okT ns i d = true then goT (ns ++ [nameT d]) (i + 1) r else .inl i)
    rw [name_flip, goT_flip r]
    have e : okT ns i (flip1 d) = okT ns i d := by unfold okT; rw [told_flip, name_flip]
    rw [e]
theorem firstW_flip (ds es : List D) : firstW (ds.map flip1) es = firstW ds es := by
  unfold firstW
  rw [goT_flip, List.length_map]
/-! ### the names, where nothing is wrong -/
theorem goT_names : ∀ {ds : List D} {ns0 ns : List Str} {i : Nat}, goT ns0 i ds = .inr ns → ns = ns0 ++ ds.map nameT
  | [], ns0, ns, i, h => by
    have e : ns0 = ns := by injection h
    rw [← e]; simp
  | d :: r, ns0, ns, i, h => by
    have h' : (if okT ns0 i d = true then goT (ns0 ++ [nameT d]) (i + 1) r else .inl i) = .inr ns := h
    by_cases hk : okT ns0 i d = true
    · rw [if_pos hk] at h'
      rw [goT_names h']; simp
    · rw [if_neg hk] at h'
      cases h'
theorem goF_names {tn : Nat} : ∀ {ds : List D} {ns0 ns : List Str} {i : Nat}, goF tn ns0 i ds = .inr ns → ns = ns0 ++ ds.map strOf
  | [], ns0, ns, i, h => by
    have e : ns0 = ns := by injection h
    rw [← e]; simp
  | d :: r, ns0, ns, i, h => by
    have h' : (if okF tn ns0 i d = true then goF tn (ns0 ++ [strOf d]) (i + 1) r else .inl (tn + i)) = .inr ns := h
    by_cases hk : okF tn ns0 i d = true
    · rw [if_pos hk] at h'
      rw [goF_names h']; simp
    · rw [if_neg hk] at h'
      cases h'
theorem firstW_names {ds es : List D} {ns : List Str} (h : firstW ds es = .inr ns) : ns = ds.map nameT ++ es.map strOf := by
  unfold firstW at h
  cases e1 : goT [] 0 ds with
  | inl i => rw [e1] at h; cases h
  | inr ns1 =>
    rw [e1] at h
    have h1 : (match goF ds.length ns1 0 es with | .inl i => (.inl i : Nat ⊕ List Str) | .inr ns2 => if ns2 = [] then .inl 0 else .inr ns2) = .inr ns := h
    cases e2 : goF ds.length ns1 0 es with
    | inl i => rw [e2] at h1; cases h1
    | inr ns2 =>
      rw [e2] at h1
      have h2 : (if ns2 = [] then (.inl 0 : Nat ⊕ List Str) else .inr ns2) = .inr ns := h1
      by_cases hn : ns2 = []
      · rw [if_pos hn] at h2; cases h2
      · rw [if_neg hn] at h2
        injection h2 with h2
        rw [← h2, goF_names e2, goT_names e1]
        simp
/-- .. and each told one is a list or tuple with its name first -/
theorem goT_told : ∀ {ds : List D} {ns0 ns : List Str} {i : Nat}, goT ns0 i ds = .inr ns → ∀ d ∈ ds, isTold d = true
  | [], _, _, _, _, _, hd => by cases hd
  | d :: r, ns0, ns, i, h, x, hx => by
    have h' : (if okT ns0 i d = true then goT (ns0 ++ [nameT d]) (i + 1) r else .inl i) = .inr ns := h
    by_cases hk : okT ns0 i d = true
    · rw [if_pos hk] at h'
      rcases List.mem_cons.mp hx with e | hx
      · subst e
        unfold okT at hk
        rw [Bool.and_eq_true, Bool.and_eq_true] at hk
        exact hk.2.1
      · exact goT_told h' x hx
    · rw [if_neg hk] at h'
      cases h'
theorem firstW_told {ds es : List D} {ns : List Str} (h : firstW ds es = .inr ns) : ∀ d ∈ ds, isTold d = true := by
  unfold firstW at h
  cases e1 : goT [] 0 ds with
  | inl i => rw [e1] at h; cases h
  | inr ns1 => exact goT_told e1
theorem goF_free {tn : Nat} : ∀ {ds : List D} {ns0 ns : List Str} {i : Nat}, goF tn ns0 i ds = .inr ns → ds.all isWord = true
  | [], _, _, _, _ => rfl
  | d :: r, ns0, ns, i, h => by
    have h' : (if okF tn ns0 i d = true then goF tn (ns0 ++ [strOf d]) (i + 1) r else .inl (tn + i)) = .inr ns := h
    by_cases hk : okF tn ns0 i d = true
    · rw [if_pos hk] at h'
      have hn : isName d = true := by
        unfold okF at hk
        rw [Bool.and_eq_true, Bool.and_eq_true, Bool.and_eq_true] at hk
        exact hk.2.2.1
      unfold isName at hn
      rw [Bool.and_eq_true] at hn
      rw [List.all_cons, hn.1, goF_free h']
      rfl
    · rw [if_neg hk] at h'
      cases h'
theorem firstW_free {ds es : List D} {ns : List Str} (h : firstW ds es = .inr ns) : es.all isWord = true := by
  unfold firstW at h
  cases e1 : goT [] 0 ds with
  | inl i => rw [e1] at h; cases h
  | inr ns1 =>
    rw [e1] at h
    have h1 : (match goF ds.length ns1 0 es with | .inl i => (.inl i : Nat ⊕ List Str) | .inr ns2 => if ns2 = [] then .inl 0 else .inr ns2) = .inr ns := h
    cases e2 : goF ds.length ns1 0 es with
    | inl i => rw [e2] at h1; cases h1
    | inr ns2 => exact goF_free e2
theorem notTup {K : PySem.W.Frag} {H : Hp} {n : Nat} {S : Addr → Prop} {v : V} {d : D} (hs : ¬ ∃ ds, d = .seq false ds) (r : Rep H n S v d) : ∃ t, TyX K H v t ∧ PySem.W.kitOne K t (.type "tuple") = some false := by
  have k1 : kitB "NoneType" "tuple" = some false := by decide +kernel
  have k2 : kitB "bool" "tuple" = some false := by decide +kernel
  have k3 : kitB "int" "tuple" = some false := by decide +kernel
  have k4 : kitB "list" "tuple" = some false := by decide +kernel
  have k5 : kitB "str" "tuple" = some false := by decide +kernel
  have k6 : kitB "dict" "tuple" = some false := by decide +kernel
  cases n with
  | zero => exact r.elim
  | succ n =>
    cases d with
    | leaf x =>
      obtain ⟨rfl, lf⟩ := r
      cases v with
      | non => exact ⟨_, .base .non, kit_ty k1⟩
      | bl b => exact ⟨_, .base (.bl b), kit_ty k2⟩
      | int i => exact ⟨_, .base (.int i), kit_ty k3⟩
      | str y => exact ⟨_, .base (.str y), kit_ty k5⟩
      | byt y => cases lf
      | flt y => cases lf
      | ref y => cases lf
      | ty y => cases lf
    | seq b ds =>
      obtain ⟨a, us, rfl, _, ha, _⟩ := r
      cases b with
      | true => exact ⟨_, .base (.lst ha), kit_ty k4⟩
      | false => exact absurd ⟨_, rfl⟩ hs
    | dct =>
      obtain ⟨a, rfl, _, ha⟩ := r
      exact ⟨_, .base (.dK ha), kit_ty k6⟩
/-! ### the beginning of a turn -/
def isLeaf : D → Bool
  | .leaf _ => true
  | _ => false
theorem StO.here {H : Hp} {a b : Addr} {n : Nat} (s : StO H a b n) : Here (two a b) H := fun q z => by
  obtain ⟨ns, c1, c2, c3, h1, h2, _⟩ := s.ex
  rcases z with rfl | rfl
  · exact ⟨_, h1⟩
  · exact ⟨_, h2⟩
theorem pick_go2 {H H' : Hp} {a b : Addr} {n k : Nat} {menu : List D} {v : V} {Q : VK} {E : XK} (s : StO H a b n) (e1 : Same H H') (r : Rep H' (k + 1) (two a b) v (.seq true menu)) (hn : n ≤ 1000000) (h0 : 0 < menu.length)
    (q : ∀ v H2 d, d ∈ menu → Rep H2 k (two a b) v d → StO H2 a b (n + 1) → Kp (two a b) H H2 → Kp (two a b) H' H2 → Q v H2) : spPick [.ref a, v] H' Q E := by
  obtain ⟨l, xs, rfl, nS, hl, h60, hp⟩ := r
  refine ⟨a, b, l, xs, n, rfl, s.kp e1, hn, hl, fun z => nS (.inl z), fun z => nS (.inr z), by rw [Paired.length hp]; exact h0, h60, fun v H2 hv s2 k2 => ?_⟩
  obtain ⟨d, hd, rd⟩ := Paired.mem hp hv
  exact q v H2 d hd (rd.kp k2) s2 ((Kp.of e1).trans k2) k2
theorem menuT_form {d : D} (h : d ∈ menuT) : ∃ ds, d = .seq true ds ∧ ds.length ≤ 2 ∧ ds.all (okD 4) = true := by
  unfold menuT at h
  rcases List.mem_cons.mp h with rfl | h
  · exact ⟨_, rfl, by decide, by decide +kernel⟩
  rcases List.mem_cons.mp h with rfl | h
  · exact ⟨_, rfl, by decide, by decide +kernel⟩
  rw [List.mem_singleton.mp h]
  exact ⟨_, rfl, by decide, by decide +kernel⟩
theorem menuF_form {d : D} (h : d ∈ menuF) : ∃ ds, d = .seq true ds ∧ ds.length ≤ 2 ∧ ds.all (okD 4) = true ∧ ds.all isLeaf = true := by
  unfold menuF at h
  rcases List.mem_cons.mp h with rfl | h
  · exact ⟨_, rfl, by decide, by decide +kernel, rfl⟩
  rcases List.mem_cons.mp h with rfl | h
  · exact ⟨_, rfl, by decide, by decide +kernel, rfl⟩
  rw [List.mem_singleton.mp h]
  exact ⟨_, rfl, by decide, by decide +kernel, rfl⟩
theorem menuA_none : ∀ d ∈ menuA, isIn ["a", "b"] d = false := by
  intro d h
  unfold menuA at h
  simp only [List.mem_cons, List.not_mem_nil, or_false] at h
  rcases h with rfl | rfl | rfl | rfl | rfl | rfl | rfl | rfl | rfl | rfl | rfl <;> first | rfl | decide +kernel
theorem first_ab : firstW [.seq false [ls "a", .seq true [ls "x"]]] [ls "b"] = .inr ["a", "b"] := by
  have h1 : okT [] 0 (.seq false [ls "a", .seq true [ls "x"]]) = true := by decide +kernel
  have h2 : okF 1 ["a"] 0 (ls "b") = true := by decide +kernel
  have g1 : goT [] 0 [.seq false [ls "a", .seq true [ls "x"]]] = .inr ["a"] := by
    show (if okT [] 0 (.seq false [ls "a", .seq true [ls "x"]]) = true then goT (([] : List Str) ++ [("a" : Str)]) 1 [] else .inl 0) = _
    rw [if_pos h1]
    rfl
  have g2 : goF 1 ["a"] 0 [ls "b"] = .inr ["a", "b"] := by
    show (if okF 1 ["a"] 0 (ls "b") = true then goF 1 ([("a" : Str)] ++ [("b" : Str)]) 1 [] else .inl (1 + 0)) = _
    rw [if_pos h2]
    rfl
  unfold firstW
  rw [g1]
  show (match goF 1 ["a"] 0 [ls "b"] with | .inl i => (.inl i : Nat ⊕ List Str) | .inr ns2 => if ns2 = [] then .inl 0 else .inr ns2) = _
  rw [g2]
  rfl
/-- two new lists that hold what was shown -/
theorem cel_new {H H1 H2 : Hp} {a b lt lf : Addr} {n : Nat} {us ws : List V} {ds es : List D} (s : StO H2 a b n) (nt : H lt = none) (k1 : Kp (two a b) (upd H lt (.lst us)) H1) (e1 : Same H1 H2) (nf : H2 lf = none) (ta : lt ≠ a) (tb : lt ≠ b)
    (rt : Paired (Rep H 4 (two a b)) us ds) (rf : Paired (Rep H1 4 (two a b)) ws es) (ot : ds.all (okD 4) = true) (of : es.all (okD 4) = true) (lv : es.all isLeaf = true) :
    Cel (upd H2 lf (.lst ws)) a b lt lf n us ws ds es := by
  have k01 : Kp (fun c => two a b c ∨ c = lt) H H1 := fun c o h z => k1 c o (by rw [upd_ne (fun q => z (.inr q))]; exact h) fun q => z (.inl q)
  have ht1 : H1 lt = some (.lst us) := k1 _ _ upd_same fun z => z.elim ta tb
  have ht2 := e1 _ _ ht1
  have tf : lt ≠ lf := ne_of_none ht2 nf
  have hb2 := s.here
  have fa : lf ≠ a := fun z => by
    obtain ⟨o, q⟩ := hb2 a (.inl rfl)
    rw [← z, nf] at q; cases q
  have fb : lf ≠ b := fun z => by
    obtain ⟨o, q⟩ := hb2 b (.inr rfl)
    rw [← z, nf] at q; cases q
  have e3 : Same H2 (upd H2 lf (.lst ws)) := same_new nf
  have sub4 : ∀ c, S4 a b lt lf c → (two a b c ∨ c = lt) ∨ c = lf := fun c z => by
    rcases z with z | z | z | z
    · exact .inl (.inl (.inl z))
    · exact .inl (.inl (.inr z))
    · exact .inl (.inr z)
    · exact .inr z
  refine ⟨s.kp e3, e3 _ _ ht2, upd_same, tf, ta, tb, fa, fb, L2.Paired.mapP rt fun u d z => ?_, L2.Paired.mapP (paired_and rf lv) fun u d z => ?_, ot, of⟩
  · have z1 := ((Rep.add nt z).kp k01).kp (Kp.of e1)
    exact ((Rep.add nf z1).sub sub4).kp (Kp.of e3)
  · obtain ⟨q, z⟩ := z
    cases d with
    | leaf x => exact z
    | _ => cases q
end L2.E2

namespace L2.E2
open PySem PySem.Spec PyProof.Rows L2.Vx
def spLaw (K : PySem.W.Frag) : Sp := fun vs H Q _ => ∃ (p : Addr) (ns : List Int), vs = [.ref p] ∧ SqL K H p (ns.map V.int) ∧ ∀ H', Q (.bl true) H'
def tIx0 (K : PySem.W.Frag) : TE := tOp (rIx K) (tVar 11) (tC (.int 0))
theorem passN {X : Cx} : Passes (L2.CX X.prog X.w) X E0 := fun _ _ _ _ _ _ _ ⟨_, _, _, _, _, _, _, _, _, _, _, _, z⟩ => z.elim
/-- list(thing) if isinstance(thing, tuple) else thing -/
def tGv (K : PySem.W.Frag) : TE := tIf (tB (tCB (rIsi K) (tCons (tVar 11) (tCons (tC (.ty "tuple")) tNil)))) (tCB (fun xs H Q => ∃ p ys, xs = [.ref p] ∧ (SqL K H p ys ∨ SqT K H p ys) ∧ ∀ l, H l = none → Q (.ref l) (upd H l (.lst ys))) (tCons (tVar 11) tNil)) (tVar 11)
theorem dat_dct {X : Cx} {pos : Pos} {S : Addr → Prop} {G : St → Hp → Prop} {n : Nat} : PE X (.Dict [] [] pos) (tDat S G (n + 1) .dct) := PE.imp pe_dnewK fun σ H Q k d nd => k.2.2 (.ref d) _ (same_new nd) ⟨d, rfl, k.1.not nd, upd_same⟩
structure TxZ (mg : Str → Option Value) : Prop where
  z_range : mg "range" = none
  z_list : mg "list" = none
  z_tuple : mg "tuple" = none
  z_isinstance : mg "isinstance" = none
section
variable {P : Program} {w : World} {K : PySem.W.Frag} {mg : Str → Option Value} {base : Heap}
theorem ok_law {C CB fI f fstart fpick fdraw fspoilt ffw fmade fsame ffz fasked : Addr} {fd dI dstart dpick ddraw dspoilt dfw dmade dsame dfz dasked : FuncData} (F : Fun K "law" "law" sLaw f fd) (T : TxZ mg) (mkC : Mk K C fI) (gC : mg "Columns" = some (.ref C))
    (GI : FnOk P w K mg base (L2.CX P w) 4 fI dI ["self", "told", "free"] (spInit C CB)) (bI : Binds K dI ["self", "told", "free"] [])
    (m_start : mg "_law_start" = some (.ref fstart)) (k_start : PySem.W.keepIn K (.ref fstart) = true) (m_pick : mg "_law_pick" = some (.ref fpick)) (k_pick : PySem.W.keepIn K (.ref fpick) = true) (m_draw : mg "_law_draw" = some (.ref fdraw)) (k_draw : PySem.W.keepIn K (.ref fdraw) = true) (m_spoilt : mg "_law_spoilt" = some (.ref fspoilt)) (k_spoilt : PySem.W.keepIn K (.ref fspoilt) = true) (m_fw : mg "_law_first_wrong" = some (.ref ffw)) (k_fw : PySem.W.keepIn K (.ref ffw) = true) (m_made : mg "_law_made_so" = some (.ref fmade)) (k_made : PySem.W.keepIn K (.ref fmade) = true) (m_same : mg "_law_same" = some (.ref fsame)) (k_same : PySem.W.keepIn K (.ref fsame) = true) (m_fz : mg "_law_m_frozen" = some (.ref ffz)) (k_fz : PySem.W.keepIn K (.ref ffz) = true) (m_asked : mg "_law_asked" = some (.ref fasked)) (k_asked : PySem.W.keepIn K (.ref fasked) = true)
    (Gstart : FnOk P w K mg base CX0 1 fstart dstart ["_law_script"] (spStart K)) (bstart : Binds K dstart ["_law_script"] [])
    (Gpick : FnOk P w K mg base CX0 2 fpick dpick ["_law_stream", "_law_some"] spPick) (bpick : Binds K dpick ["_law_stream", "_law_some"] [])
    (Gdraw : FnOk P w K mg base CX0 1 fdraw ddraw ["_law_stream", "_law_many"] spDraw) (bdraw : Binds K ddraw ["_law_stream", "_law_many"] [])
    (Gspoilt : FnOk P w K mg base CX0 3 fspoilt dspoilt ["_law_stream", "_law_told", "_law_free"] spSpoilt) (bspoilt : Binds K dspoilt ["_law_stream", "_law_told", "_law_free"] [])
    (Gfw : FnOk P w K mg base CX0 3 ffw dfw ["_law_told", "_law_free"] spFW) (bfw : Binds K dfw ["_law_told", "_law_free"] [])
    (Gmade : FnOk P w K mg base CX0 6 fmade dmade ["_law_told", "_law_free"] spMade) (bmade : Binds K dmade ["_law_told", "_law_free"] [])
    (Gsame : FnOk P w K mg base CX0 8 fsame dsame ["_law_found", "_law_due"] (spSame 7)) (bsame : Binds K dsame ["_law_found", "_law_due"] [])
    (Gfz : FnOk P w K mg base CX0 8 ffz dfz ["_law_thing"] (spFz 7)) (bfz : Binds K dfz ["_law_thing"] [])
    (Gasked : FnOk P w K mg base CX0 6 fasked dasked ["_law_columns", "_law_thing"] (spAsked C)) (basked : Binds K dasked ["_law_columns", "_law_thing"] []) : FnOk P w K mg base CX0 9 f fd ["_law_script"] (spLaw K) := by
  refine F.ok scLaw (fun vs H Q E h => ?_) (fun cdv A outer s H vs Q E hr h => ?_)
  · obtain ⟨p, ns, rfl, _⟩ := h
    rfl
  · obtain ⟨p, ns, rfl, hp, k⟩ := h
    refine ⟨_, (pss_cons (ps_set (i := 1) scLaw.nd rfl (Or.inl rfl) (pe_call Gstart (hr.mono (by decide)) rfl m_start k_start bstart .nil pass0 (pa_cons (pv 0) pa_nil))) (pss_ex fun a => (pss_ex fun b => (pss_cons (ps_for PassesOwn.never rfl (pi_range1 (by rfl) T.z_range (pa_cons pe_int pa_nil)) (pg_name (i := 2) scLaw.nd rfl (Or.inl rfl)) (pss_cons (ps_set (i := 3) scLaw.nd rfl (Or.inl rfl) (pe_call Gpick (hr.mono (by decide)) rfl m_pick k_pick bpick .nil pass0 (pa_cons (pv 1) (pa_cons (show PE _ _ (tDat (two a b) (fun _ _ => True) (5 + 1) (.seq true menuT)) from by exact (dat_lst (dats_cons stay0 (dat_lst dats_nil (Nat.le_of_ble_eq_true rfl)) (dats_cons stay0 (dat_lst (dats_cons stay0 (dat_tup (dats_cons stay0 (dat_leaf pe_str (by decide +kernel)) (dats_cons stay0 (dat_lst (dats_cons stay0 (dat_leaf pe_str (by decide +kernel)) dats_nil) (Nat.le_of_ble_eq_true rfl)) dats_nil)) (Nat.le_of_ble_eq_true rfl)) dats_nil) (Nat.le_of_ble_eq_true rfl)) (dats_cons stay0 (dat_lst (dats_cons stay0 (dat_tup (dats_cons stay0 (dat_leaf pe_str (by decide +kernel)) (dats_cons stay0 (dat_tup (dats_cons stay0 (dat_leaf pe_str (by decide +kernel)) (dats_cons stay0 (dat_leaf pe_str (by decide +kernel)) dats_nil)) (Nat.le_of_ble_eq_true rfl)) dats_nil)) (Nat.le_of_ble_eq_true rfl)) (dats_cons stay0 (dat_tup (dats_cons stay0 (dat_leaf pe_str (by decide +kernel)) (dats_cons stay0 (dat_lst (dats_cons stay0 (dat_leaf pe_str (by decide +kernel)) (dats_cons stay0 (dat_leaf pe_str (by decide +kernel)) (dats_cons stay0 (dat_leaf pe_str (by decide +kernel)) dats_nil))) (Nat.le_of_ble_eq_true rfl)) dats_nil)) (Nat.le_of_ble_eq_true rfl)) dats_nil)) (Nat.le_of_ble_eq_true rfl)) dats_nil))) (Nat.le_of_ble_eq_true rfl))) pa_nil)))) (pss_cons (ps_par (i := 3) (j := 4) rfl scLaw.nd rfl rfl (by decide) rfl rfl (pa_cons (pe_callTy call_list_of (by rfl) T.z_list (by decide +kernel) (pa_cons (pv 3) pa_nil)) (pa_cons (pe_callTy call_list_of (by rfl) T.z_list (by decide +kernel) (pa_cons (pe_call Gpick (hr.mono (by decide)) rfl m_pick k_pick bpick .nil pass0 (pa_cons (pv 1) (pa_cons (show PE _ _ (tDat (two a b) (fun _ _ => True) (5 + 1) (.seq true menuF)) from by exact (dat_lst (dats_cons stay0 (dat_lst dats_nil (Nat.le_of_ble_eq_true rfl)) (dats_cons stay0 (dat_lst (dats_cons stay0 (dat_leaf pe_str (by decide +kernel)) dats_nil) (Nat.le_of_ble_eq_true rfl)) (dats_cons stay0 (dat_lst (dats_cons stay0 (dat_leaf pe_str (by decide +kernel)) (dats_cons stay0 (dat_leaf pe_str (by decide +kernel)) dats_nil)) (Nat.le_of_ble_eq_true rfl)) dats_nil))) (Nat.le_of_ble_eq_true rfl))) pa_nil))) pa_nil)) pa_nil)) rfl) (pss_cons (ps_for PassesOwn.never rfl (pi_range1 (by rfl) T.z_range (pa_cons (pe_call Gdraw (hr.mono (by decide)) rfl m_draw k_draw bdraw .nil pass0 (pa_cons (pv 1) (pa_cons pe_int pa_nil))) pa_nil)) (pg_name (i := 5) scLaw.nd rfl (Or.inl rfl)) (pss_one (ps_expr (pe_call Gspoilt (hr.mono (by decide)) rfl m_spoilt k_spoilt bspoilt .nil pass0 (pa_cons (pv 1) (pa_cons (pv 3) (pa_cons (pv 4) pa_nil))))))) (pss_cons (ps_set (i := 6) scLaw.nd rfl (Or.inl rfl) (pe_call Gfw (hr.mono (by decide)) rfl m_fw k_fw bfw .nil pass0 (pa_cons (pv 3) (pa_cons (pv 4) pa_nil)))) (C8.pss_cut (ps_set (i := 7) scLaw.nd rfl (Or.inl rfl) (pe_ifExp (pt_cmpR op_isN1 (pv 6) pe_non (nomark _)) (pe_op op_cat (pe_lc (own := [("_law_thing", 11)]) (g := gName 11) (tt := tYes) rfl scLaw.nd (pi_list (pv 3)) (blkOk_by (N := nLaw) (sc := defScope sLaw) (by decide +kernel)) (fun _ _ _ _ _ => pg_name (i := 11) scLaw.nd rfl (Or.inl rfl)) (fun _ _ _ _ _ => pts_nil) (te := tIx0 K) (fun _ _ _ _ _ => (pe_ix ix_seq (pv 11) pe_int (fun _ _ => rfl)))) (pv 4)) (pe_lst pa_nil))) (C8.pss_cut (ps_set (i := 8) scLaw.nd rfl (Or.inl rfl) (pe_ifExp (pt_cmpR op_isN1 (pv 6) pe_non (nomark _)) (pe_tup (pa_cons pe_str (pa_cons (pv 7) pa_nil))) (pe_tup (pa_cons pe_str (pa_cons (pv 6) pa_nil))))) (C8.pss_cut (ps_setLc (i := 9) (own := [("_law_thing", 11)]) (g := gName 11) (tt := tYes) (te := tGv K) rfl scLaw.nd rfl rfl (sw_true rfl rfl rfl (by decide +kernel)) (pi_list (pv 3)) (blkOk_by (N := nLaw) (sc := defScope sLaw) (by decide +kernel)) (fun _ _ _ _ _ => pg_name (i := 11) scLaw.nd rfl (Or.inl rfl)) (fun _ _ _ _ _ => pts_nil) (fun _ _ _ _ _ => (pe_ifExp (pt_val (pe_callB call_isi (by rfl) T.z_isinstance (by decide +kernel) (pa_cons (pv 11) (pa_cons (pe_bltn (v := .ty "tuple") (by rfl) T.z_tuple (by decide +kernel) rfl) pa_nil)))) (pe_callTy call_list_of (by rfl) T.z_list (by decide +kernel) (pa_cons (pv 11) pa_nil)) (pv 11)))) (pss_cons (ps_if (PW.pt (pw_or (pt_not (pt_val (pe_call Gsame (hr.mono (by decide)) rfl m_same k_same bsame .nil pass0 (pa_cons (pe_call Gmade (hr.mono (by decide)) rfl m_made k_made bmade .nil pass0 (pa_cons (pe_callTy call_tuple_of (by rfl) T.z_tuple (by decide +kernel) (pa_cons (pv 3) pa_nil)) (pa_cons (pv 4) pa_nil))) (pa_cons (pv 8) pa_nil))))) (pw_or1 (pt_not (pt_val (pe_call Gsame (hr.mono (by decide)) rfl m_same k_same bsame .nil pass0 (pa_cons (pe_call Gmade (hr.mono (by decide)) rfl m_made k_made bmade .nil pass0 (pa_cons (pv 9) (pa_cons (pe_callTy call_tuple_of (by rfl) T.z_tuple (by decide +kernel) (pa_cons (pv 4) pa_nil)) pa_nil))) (pa_cons (pv 8) pa_nil)))))))) (pss_one (ps_ret pe_bl)) pss_nil) (pss_cons (ps_set (i := 10) scLaw.nd rfl (Or.inl rfl) (pe_make mkC GI (hr.mono (by decide)) rfl gC bI .nil passN (pa_cons (show PE _ _ (tDat (two a b) (fun _ _ => True) (3 + 1) (.seq true [.seq false [ls "a", .seq true [ls "x"]]])) from by exact (dat_lst (dats_cons stay0 (dat_tup (dats_cons stay0 (dat_leaf pe_str (by decide +kernel)) (dats_cons stay0 (dat_lst (dats_cons stay0 (dat_leaf pe_str (by decide +kernel)) dats_nil) (Nat.le_of_ble_eq_true rfl)) dats_nil)) (Nat.le_of_ble_eq_true rfl)) dats_nil) (Nat.le_of_ble_eq_true rfl))) (pa_cons (show PE _ _ (tDat (two a b) (fun _ _ => True) (3 + 1) (.seq true [ls "b"])) from by exact (dat_lst (dats_cons stay0 (dat_leaf pe_str (by decide +kernel)) dats_nil) (Nat.le_of_ble_eq_true rfl))) pa_nil)))) (pss_cons (ps_set (i := 11) scLaw.nd rfl (Or.inl rfl) (pe_call Gpick (hr.mono (by decide)) rfl m_pick k_pick bpick .nil pass0 (pa_cons (pv 1) (pa_cons (show PE _ _ (tDat (two a b) (fun _ _ => True) (2 + 1) (.seq true menuA)) from by exact (dat_lst (dats_cons stay0 (dat_leaf pe_str (by decide +kernel)) (dats_cons stay0 (dat_leaf pe_str (by decide +kernel)) (dats_cons stay0 (dat_leaf pe_str (by decide +kernel)) (dats_cons stay0 (dat_leaf pe_int (by decide +kernel)) (dats_cons stay0 (dat_leaf pe_non (by decide +kernel)) (dats_cons stay0 (dat_leaf pe_bl (by decide +kernel)) (dats_cons stay0 (dat_lst (dats_cons stay0 (dat_leaf pe_str (by decide +kernel)) dats_nil) (Nat.le_of_ble_eq_true rfl)) (dats_cons stay0 (dat_tup (dats_cons stay0 (dat_leaf pe_str (by decide +kernel)) dats_nil) (Nat.le_of_ble_eq_true rfl)) (dats_cons stay0 dat_dct (dats_cons stay0 (dat_leaf pe_str (by decide +kernel)) (dats_cons stay0 (dat_leaf pe_str (by decide +kernel)) dats_nil))))))))))) (Nat.le_of_ble_eq_true rfl))) pa_nil)))) (pss_one (ps_if (pt_not (pt_val (pe_call Gsame (hr.mono (by decide)) rfl m_same k_same bsame .nil pass0 (pa_cons (pe_call Gfz (hr.mono (by decide)) rfl m_fz k_fz bfz .nil pass0 (pa_cons (pe_call Gasked (hr.mono (by decide)) rfl m_asked k_asked basked .nil pass0 (pa_cons (pv 10) (pa_cons (pv 11) pa_nil))) pa_nil)) (pa_cons (pe_call Gfz (hr.mono (by decide)) rfl m_fz k_fz bfz .nil pass0 (pa_cons (pe_tup (pa_cons pe_str (pa_cons (pv 11) pa_nil))) pa_nil)) pa_nil))))) (pss_one (ps_ret pe_bl)) pss_nil))))))))))))) (pss_one (ps_ret pe_bl)))))), ?_⟩
    refine ⟨_, rfl, p, ns, rfl, hp, fun a b H1 S1 e1 na nb => ⟨a, b, ?_⟩⟩
    refine ⟨8, rfl, by decide, by decide, for_range (lo := 0) (n := 8) (fun i σ H2 => ∃ v2 v3 v4 v5 v6 v7 v8 v9 v10 v11, σ = [some (.ref p), some (.ref a), v2, v3, v4, v5, v6, v7, v8, v9, v10, v11] ∧ StO H2 a b (40 * i)) ⟨none, none, none, none, none, none, none, none, none, none, rfl, S1.le (by omega)⟩ ?_ ?_⟩
    · rintro i σ H2 hi ⟨v2, v3, v4, v5, v6, v7, v8, v9, v10, v11, rfl, S2⟩
      -- told
      refine ⟨_, rfl, S2.here, trivial, fun l3 H3 e3 r3 => pick_go2 (E := E0) S2 e3 r3 (by omega) (by decide) fun vt H4 dt hdt rdt S4' k4 _ => ?_⟩
      obtain ⟨ds, rfl, hl2, hok⟩ := menuT_form hdt
      obtain ⟨l4, us, rfl, nS4, hl4, _, hp4⟩ := rdt
      -- told, free = list(told), list(pick(..))
      refine ⟨_, rfl, l4, us, rfl, .inl (SqL.of hl4), fun lt nlt => ?_⟩
      have e5 := same_new (o := .lst us) nlt
      have S5 := S4'.kp e5
      refine ⟨_, rfl, S5.here, trivial, fun l6 H6 e6 r6 => pick_go2 (E := E0) S5 e6 r6 (by omega) (by decide) fun vf H7 df hdf rdf S7 k7 _ => ?_⟩
      obtain ⟨es, rfl, hl2', hok', hlv⟩ := menuF_form hdf
      obtain ⟨l7, ws, rfl, nS7, hl7, _, hp7⟩ := rdf
      refine ⟨l7, ws, rfl, .inl (SqL.of hl7), fun lf nlf => ⟨_, _, rfl, ?_⟩⟩
      have ta : lt ≠ a := fun z => by
        obtain ⟨o, q⟩ := S4'.here a (.inl rfl)
        rw [← z, nlt] at q; cases q
      have tb : lt ≠ b := fun z => by
        obtain ⟨o, q⟩ := S4'.here b (.inr rfl)
        rw [← z, nlt] at q; cases q
      have c8 := cel_new (lt := lt) (lf := lf) S7 nlt k7 (Same.refl _) nlf ta tb hp4 hp7 hok hok' hlv
      have hus : us.length ≤ 2 := by rw [Paired.length hp4]; exact hl2
      have hws : ws.length ≤ 2 := by rw [Paired.length hp7]; exact hl2'
      clear hp4 hp7 hok hok' hlv hl4 hl7 nS4 nS7 k4 k7 e5 e6 e3 r3 r6 hdt hdf
      generalize upd H7 lf (.lst ws) = H8 at c8
      -- for k in range(draw(4)): spoilt
      refine ⟨_, rfl, a, b, 4, _, rfl, c8.st, (by omega), (by decide), (by decide), fun d H9 hd0 hd4 s9 k9 => ?_⟩
      have c9 := c8.kp s9 k9
      obtain ⟨dn, rfl⟩ := Int.eq_ofNat_of_zero_le hd0
      have hdn : dn < 4 := by omega
      refine ⟨dn, rfl, by omega, by omega, for_range (lo := 0) (n := dn) (fun j σ H10 => ∃ w5 us ws ds es, σ = [some (.ref p), some (.ref a), some (.int (0 + (i : Nat))), some (.ref lt), some (.ref lf), w5, v6, v7, v8, v9, v10, v11] ∧ Cel H10 a b lt lf (40 * i + 3 + 6 * j) us ws ds es ∧ us.length ≤ 2 + j ∧ ws.length ≤ 2 + j) ⟨_, us, ws, ds, es, rfl, c9.le (by omega), by omega, by omega⟩ ?_ ?_⟩
      · rintro j σ H10 hj ⟨w5, us, ws, ds, es, rfl, c10, h1, h2⟩
        refine ⟨_, rfl, _, rfl, _, rfl, a, b, lt, lf, _, us, ws, ds, es, rfl, c10, (by omega), (by omega), (by omega), fun us' ws' ds' es' H11 c11 h3 h4 _ => ?_⟩
        exact ⟨_, us', ws', ds', es', rfl, c11.le (by omega), by omega, by omega⟩
      · rintro σ H10 ⟨w5, us, ws, ds, es, rfl, c10, h1, h2⟩
        -- first
        refine ⟨_, rfl, _, rfl, .ref lt, .ref lf, _, 4, true, true, us, ws, ds, es, lt, lf, rfl, ⟨rfl, rfl, c10.ht, c10.hf, by omega, by omega, c10.rt, c10.rf⟩, fun H11 e11 => ?_⟩
        have c11 := c10.same e11
        -- names
        refine ⟨fun σ H12 => ∃ w7, σ = [some (.ref p), some (.ref a), some (.int (0 + (i : Nat))), some (.ref lt), some (.ref lf), w5, some (resW (firstW ds es)), some w7, v8, v9, v10, v11] ∧ Cel H12 a b lt lf (40 * i + 3 + 6 * dn) us ws ds es ∧ ∀ nms, firstW ds es = .inr nms → ∃ q, w7 = .ref q ∧ H12 q = some (.lst (nms.map V.str)), ?_, ?_⟩
        · cases hfw : firstW ds es with
          | inl k0 =>
            refine ⟨_, rfl, rfl, _, rfl, ?_⟩
            refine iteF ?_
            refine ⟨by decide, fun ln nln => ?_⟩
            exact ⟨_, rfl, c11.same (same_new nln), fun _ z => by cases z⟩
          | inr nms =>
            refine ⟨_, rfl, rfl, _, rfl, ?_⟩
            refine iteT ?_
            refine ⟨_, rfl, lt, rfl, ⟨us, SqL.of c11.ht⟩, fun L nL => ?_⟩
            refine lc_list (K := K) (a := lt) (xs := us) (fun j H13 => H13 L = some (.lst (((ds.take j).map nameT).map V.str)) ∧ Same H11 H13) ?_ ?_ ?_ ?_
            · exact ⟨upd_same, same_new nL⟩
            · rintro j H13 _ ⟨_, e13⟩
              exact SqL.of (e13 _ _ c11.ht)
            · rintro j x H13 hx ⟨hL, e13⟩
              refine ⟨rfl, ?_⟩
              unfold tYes
              refine iteT ?_
              obtain ⟨dx, hdx, rx⟩ := Paired.get c11.rt hx
              have hmem : dx ∈ ds := List.mem_of_getElem? hdx
              obtain ⟨bb, x1, y1, rfl, hn1, hv1⟩ := told_form (firstW_told hfw dx hmem)
              obtain ⟨at1, uu, rfl, _, ha1, _, hp1⟩ := rx.kp (Kp.of e13)
              have en := name_str hn1
              cases hp1 with
              | @cons u1 _ _ _ r1 t1 =>
                rw [en] at r1
                obtain ⟨rfl, _⟩ := r1
                refine ⟨_, rfl, ?_⟩
                refine ix_go (K := K) (i := 0) (SqV.sq ha1) rfl ?_
                have hj : j < us.length := (List.getElem?_eq_some_iff.mp hx).1
                refine ⟨_, hL, ?_, ?_, fun c' o z => ?_⟩
                · rw [List.length_map, List.length_map, List.length_take]
                  exact Nat.lt_of_le_of_lt (by omega : _ ≤ 60) (by decide)
                · rw [upd_same, take_more1 hdx, List.map_append, List.map_append]
                  rfl
                · rw [upd_ne (ne_of_none z nL)]
                  exact e13 _ _ z
            · rintro H13 ⟨hL, e13⟩
              have c13 := c11.same e13
              have hws : ws = (es.map strOf).map V.str := words_strs c11.rf (firstW_free hfw)
              rw [show us.length = ds.length from Paired.length c11.rt, List.take_length] at hL
              refine ⟨_, rfl, L, lf, _, ws, rfl, rfl, hL, c13.hf, ?_, fun q nq => ?_⟩
              · rw [List.length_map, List.length_map, ← Paired.length c11.rt, sizeLine_eq]; omega
              · refine ⟨_, rfl, c13.same (same_new nq), fun nms' z => ⟨q, rfl, ?_⟩⟩
                injection z with z
                subst z
                rw [upd_same, firstW_names hfw, List.map_append, ← hws]
        · rintro σ H12 ⟨w7, rfl, c12, h7⟩
          -- due
          refine ⟨fun σ H13 => ∃ w8, σ = [some (.ref p), some (.ref a), some (.int (0 + (i : Nat))), some (.ref lt), some (.ref lf), w5, some (resW (firstW ds es)), some w7, some w8, v9, v10, v11] ∧ Cel H13 a b lt lf (40 * i + 3 + 6 * dn) us ws ds es ∧ Rep H13 3 NoS w8 (dueD (firstW ds es)), ?_, ?_⟩
          · cases hfw : firstW ds es with
            | inl k0 =>
              refine ⟨_, rfl, rfl, _, rfl, ?_⟩
              refine iteF ?_
              refine ⟨_, rfl, (by show 2 ≤ sizeLine; decide), fun q nq => ?_⟩
              exact ⟨_, rfl, c12.same (same_new nq), q, _, rfl, id, upd_same, (by show 2 ≤ 60; decide), .cons ⟨rfl, by decide +kernel⟩ (.cons ⟨rfl, rfl⟩ .nil)⟩
            | inr nms =>
              obtain ⟨qn, rfl, hqn⟩ := h7 nms hfw
              obtain ⟨hw, hln⟩ := firstW_inr hfw
              refine ⟨_, rfl, rfl, _, rfl, ?_⟩
              refine iteT ?_
              refine ⟨_, rfl, (by show 2 ≤ sizeLine; decide), fun q nq => ?_⟩
              have hl1 : us.length = ds.length := Paired.length c12.rt
              have hl2 : ws.length = es.length := Paired.length c12.rf
              exact ⟨_, rfl, c12.same (same_new nq), q, _, rfl, id, upd_same, (by show 2 ≤ 60; decide), .cons ⟨rfl, by decide +kernel⟩ (.cons ⟨qn, _, rfl, id, same_new nq _ _ hqn, by rw [List.length_map]; omega, rep_words hw⟩ .nil)⟩
          · rintro σ H13 ⟨w8, rfl, c13, r8⟩
            -- given
            refine ⟨fun σ H14 => ∃ g gs, σ = [some (.ref p), some (.ref a), some (.int (0 + (i : Nat))), some (.ref lt), some (.ref lf), w5, some (resW (firstW ds es)), some w7, some w8, some (.ref g), v10, v11] ∧ Cel H14 a b lt lf (40 * i + 3 + 6 * dn) us ws ds es ∧ Rep H14 3 NoS w8 (dueD (firstW ds es)) ∧ H14 g = some (.lst gs) ∧ gs.length = us.length ∧ Paired (Rep H14 4 (S4 a b lt lf)) gs (ds.map flip1), ?_, ?_⟩
            · refine ⟨_, rfl, lt, rfl, ⟨us, SqL.of c13.ht⟩, fun L nL => ?_⟩
              have Sx : ∀ c, S4 a b lt lf c → (S4 a b lt lf c ∨ c = L) := fun _ z => .inl z
              refine lc_list (K := K) (a := lt) (xs := us) (fun j H15 => ∃ gs, H15 L = some (.lst gs) ∧ gs.length = j ∧ Paired (Rep H15 4 (fun c => S4 a b lt lf c ∨ c = L)) gs ((ds.take j).map flip1) ∧ Same H13 H15) ?_ ?_ ?_ ?_
              · exact ⟨[], upd_same, rfl, .nil, same_new nL⟩
              · rintro j H15 _ ⟨_, _, _, _, e15⟩
                exact SqL.of (e15 _ _ c13.ht)
              · rintro j x H15 hx ⟨gs, hL, hgl, hgp, e15⟩
                refine ⟨rfl, ?_⟩
                unfold tYes
                refine iteT ?_
                have hj : j < us.length := (List.getElem?_eq_some_iff.mp hx).1
                obtain ⟨dx, hdx, rx0⟩ := Paired.get c13.rt hx
                have rx := (Rep.add nL rx0).kp (Kp.of e15)
                have fin : ∀ (y : V) (H16 : Hp), Same H15 H16 → Rep H16 4 (fun c => S4 a b lt lf c ∨ c = L) y (flip1 dx) → (∃ ys, H16 L = some (.lst ys) ∧ ys.length < sizeLine ∧ ∃ gs', upd H16 L (.lst (ys ++ [y])) L = some (.lst gs') ∧ gs'.length = j + 1 ∧ Paired (Rep (upd H16 L (.lst (ys ++ [y]))) 4 (fun c => S4 a b lt lf c ∨ c = L)) gs' ((ds.take (j + 1)).map flip1) ∧ Same H13 (upd H16 L (.lst (ys ++ [y])))) := fun y H16 e16 ry => by
                  refine ⟨gs, e16 _ _ hL, Nat.lt_of_le_of_lt (by omega : gs.length ≤ 60) (by decide), gs ++ [y], upd_same, by rw [List.length_append, hgl]; rfl, ?_, fun c' o z => ?_⟩
                  · have kx : Kp (fun c => S4 a b lt lf c ∨ c = L) H16 (upd H16 L (.lst (gs ++ [y]))) := upd_kp (.inr rfl)
                    rw [take_more1 hdx, List.map_append]
                    exact Paired.push (L2.Paired.mapP hgp fun _ _ z => (z.kp (Kp.of e16)).kp kx) (ry.kp kx)
                  · rw [upd_ne (ne_of_none z nL)]
                    exact e16 _ _ (e15 _ _ z)
                by_cases ht : ∃ dds, dx = .seq false dds
                · obtain ⟨dds, rfl⟩ := ht
                  obtain ⟨at1, uu, rfl, nat1, ha1, hl1, hp1⟩ := rx
                  refine ⟨_, rfl, .ref at1, .ty "tuple", .type "tuple", _, true, rfl, .ty _, .base (.tup ha1), kit_ty (by decide +kernel), _, rfl, ?_⟩
                  refine iteT ?_
                  refine ⟨_, rfl, at1, uu, rfl, .inr (SqT.of ha1), fun l nl => ?_⟩
                  have e16 := same_new (o := .lst uu) nl
                  refine fin (.ref l) _ e16 ⟨l, uu, rfl, fun z => ?_, upd_same, hl1, L2.Paired.mapP hp1 fun _ _ z => z.kp (Kp.of e16)⟩
                  rcases z with z | z
                  · exact ((c13.same e15).here.not nl) z
                  · rw [z, hL] at nl; cases nl
                · obtain ⟨t, tyx, kt⟩ := notTup (K := K) ht rx
                  refine ⟨_, rfl, x, .ty "tuple", t, _, false, rfl, .ty _, tyx, kt, _, rfl, ?_⟩
                  refine iteF ?_
                  refine ⟨_, rfl, ?_⟩
                  refine fin x _ (Same.refl _) ?_
                  have ef : flip1 dx = dx := by
                    cases dx with
                    | leaf v => rfl
                    | dct => rfl
                    | seq b dds =>
                      cases b with
                      | true => rfl
                      | false => exact absurd ⟨_, rfl⟩ ht
                  rw [ef]
                  exact rx
              · rintro H15 ⟨gs, hL, hgl, hgp, e15⟩
                rw [show us.length = ds.length from Paired.length c13.rt, List.take_length] at hgp
                exact ⟨L, gs, rfl, c13.same e15, r8.kp (Kp.of e15), hL, hgl, L2.Paired.mapP hgp fun _ _ z => z.sub Sx⟩
            · rintro σ H14 ⟨g, gs, rfl, c14, r14, hg, hgl, hgp⟩
              -- made of tuple(told), free
              refine ⟨_, rfl, lt, us, rfl, .inl ⟨SqL.of c14.ht, fun t1 nt1 => ?_⟩⟩
              have e15 := same_new (o := .tup us) nt1
              have c15 := c14.same e15
              refine ⟨_, rfl, .ref t1, .ref lf, _, 4, false, true, us, ws, ds, es, t1, lf, rfl, ⟨rfl, rfl, upd_same, c15.hf, by omega, by omega, c15.rt, c15.rf⟩, fun x1 H16 e16 r16 => ?_⟩
              have e14 := e15.trans e16
              refine ⟨_, rfl, x1, w8, dueD (firstW ds es), NoS, NoS, rfl, r16.le (by decide), (r14.kp (Kp.of e14)).le (by decide), by decide, fun H17 e17 => ⟨_, rfl, ?_⟩⟩
              refine iteF ?_
              have e147 := e14.trans e17
              have c17 := c14.same e147
              -- made of given, tuple(free)
              refine ⟨_, rfl, _, rfl, lf, ws, rfl, .inl ⟨SqL.of c17.hf, fun t2 nt2 => ?_⟩⟩
              have e18 := same_new (o := .tup ws) nt2
              have c18 := c17.same e18
              have e148 := e147.trans e18
              refine ⟨.ref g, .ref t2, _, 4, true, false, gs, ws, ds.map flip1, es, g, t2, rfl, ⟨rfl, rfl, e148 _ _ hg, upd_same, by omega, by omega, L2.Paired.mapP hgp fun _ _ z => z.kp (Kp.of e148), c18.rf⟩, fun x2 H19 e19 r19 => ?_⟩
              rw [firstW_flip] at r19
              have e149 := e148.trans e19
              refine ⟨_, rfl, x2, w8, dueD (firstW ds es), NoS, NoS, rfl, r19.le (by decide), (r14.kp (Kp.of e149)).le (by decide), by decide, fun H20 e20 => ⟨_, rfl, ?_⟩⟩
              refine iteF ?_
              have S20 : StO H20 a b (40 * i + 3 + 6 * dn) := c14.st.kp (e149.trans e20)
              -- columns
              refine ⟨S20.here, trivial, fun q1 H21 e21 r21 => ⟨(S20.kp e21).here, trivial, fun q2 H22 e22 r22 => fun x dx nx ndx hne => ?_⟩⟩
              have S22 := (S20.kp e21).kp e22
              have r21' := r21.kp (Kp.of e22)
              obtain ⟨p1, u1, rfl, _, hp1, hl1, hpp1⟩ := r21'
              obtain ⟨p2, u2, rfl, _, hp2, hl2, hpp2⟩ := r22
              have eM : Same H22 (upd (upd H22 dx (.own x)) x (.ins C dx [])) := (same_new ndx).trans (same_new (by rw [upd_ne (Ne.symm hne)]; exact nx))
              have l1 : u1.length = 1 := Paired.length hpp1
              have l2 : u2.length = 1 := Paired.length hpp2
              have W : Two H22 (two a b) 3 (.ref p1) (.ref p2) true true u1 u2 _ _ p1 p2 := ⟨rfl, rfl, hp1, hp2, by omega, by omega, hpp1, hpp2⟩
              refine ⟨x, dx, .ref p1, .ref p2, two a b, 3, true, true, u1, u2, _, _, p1, p2, rfl, upd_same, W.same eM, fun i0 hi0 => ?_, fun nms hn d kvs H23 hk hpx hd hK nd => ⟨rfl, ?_⟩⟩
              · rw [first_ab] at hi0; cases hi0
              · rw [first_ab] at hn
                injection hn with hn
                subst hn
                have e23 : Same H22 H23 := fun c o z => hk c o (eM _ _ z) (ne_of_none z nx)
                have S23 := S22.kp e23
                have nx2 : ¬ two a b x := fun z => by
                  obtain ⟨o, q⟩ := S22.here x z
                  rw [nx] at q; cases q
                have nd2 : ¬ two a b d := fun z => by
                  obtain ⟨o, q⟩ := (S22.kp eM).here d z
                  rw [nd] at q; cases q
                -- thing
                refine ⟨_, rfl, S23.here, trivial, fun q4 H24 e24 r24 => pick_go2 (E := E0) S23 e24 r24 (by omega) (by decide) fun vt H25 dt hdt rdt S25 k25 _ => ?_⟩
                have col : ColAt H25 C x ["a", "b"] := ⟨dx, d, kvs, k25 _ _ hpx nx2, k25 _ _ hd nd2, hK⟩
                refine ⟨_, rfl, _, rfl, x, _, vt, dt, two a b, 2, rfl, col, rdt, menuA_none dt hdt, fun w1 H26 q5 eq5 e26 nq5 hq5 => ?_⟩
                subst eq5
                have rq5 : Rep H26 7 NoS (.ref q5) (.seq false [ls "none", dt]) := by
                  have r2 := ((rdt.kp (Kp.of e26)).sub (S' := NoS) fun _ z => z.elim).le (m := 6) (by decide)
                  exact ⟨q5, _, rfl, id, hq5, (by show 2 ≤ 60; decide), .cons ⟨rfl, by decide +kernel⟩ (.cons r2 .nil)⟩
                refine ⟨.ref q5, _, NoS, rfl, rq5, fun w2 H27 r27 e27 => ?_⟩
                refine ⟨_, rfl, (by show 2 ≤ sizeLine; decide), fun q6 nq6 => ?_⟩
                have e28 := same_new (o := .tup [.str "none", vt]) nq6
                have e258 := (e26.trans e27).trans e28
                have rq6 : Rep (upd H27 q6 (.tup [.str "none", vt])) 7 NoS (.ref q6) (.seq false [ls "none", dt]) := by
                  have r2 := ((rdt.kp (Kp.of e258)).sub (S' := NoS) fun _ z => z.elim).le (m := 6) (by decide)
                  exact ⟨q6, _, rfl, id, upd_same, (by show 2 ≤ 60; decide), .cons ⟨rfl, by decide +kernel⟩ (.cons r2 .nil)⟩
                refine ⟨.ref q6, _, NoS, rfl, rq6, fun w3 H29 r29 e29 => ?_⟩
                refine ⟨w2, w3, _, NoS, NoS, rfl, r27.kp (Kp.of (e28.trans e29)), r29, by decide, fun H30 e30 => ⟨_, rfl, ?_⟩⟩
                refine iteF ?_
                exact ⟨_, _, _, _, _, _, _, _, _, _, rfl, (S25.kp (e258.trans (e29.trans e30))).le (by omega)⟩
    · rintro σ H2 _
      exact k H2
end
end L2.E2

namespace L2.E2
open PySem PySem.Spec PyProof.Rows L2.Vx
abbrev bmV : List Value := [.type "ValueError", .type "Exception", .type "BaseException", .type "object"]
abbrev bmT (CT : Addr) : List Value := .ref CT :: bmV
section
variable {K : PySem.W.Frag} {C CT : Addr} {nm qn : Str} {N : Addr} {bs sub : List Value} {sn : List Str} {ab : Bool} {col : Option Bool} {dd : Option Addr} {m0 m1 m2 m3 m5 : Option Value}
theorem cls_of {bm : List Value} (x : K.lookup C = some (excClassObj nm qn C N bs bm true sn sub ab col dd m0 m1 m2 m3 m5 "ValueError.__new__")) : ∃ cd, PySem.W.clsIn K C = some cd ∧ cd.mro = .ref C :: bm ∧ cd.hasDict = true := by
  refine ⟨{ name := nm, bases := bs, mro := .ref C :: bm, ns := N, qualname := qn, hasDict := true, slotNames := sn, subclasses := sub, abstract := ab, collection := col, hasDel := false }, ?_, rfl, rfl⟩
  unfold PySem.W.clsIn
  rw [x] <;> rfl
theorem mro_of {bm : List Value} (x : K.lookup C = some (excClassObj nm qn C N bs bm true sn sub ab col dd m0 m1 m2 m3 m5 "ValueError.__new__")) (base : Value) : PySem.W.mroIn K C base = some ((Value.ref C :: bm).contains base) := by
  obtain ⟨cd, h1, h2, _⟩ := cls_of x
  unfold PySem.W.mroIn
  rw [h1, Option.bind_some, h2] <;> rfl
theorem ty_of {bm : List Value} (x : K.lookup C = some (excClassObj nm qn C N bs bm true sn sub ab col dd m0 m1 m2 m3 m5 "ValueError.__new__")) : PySem.W.typeIn K (.ref C) = some (.type "type") := by
  show (K.lookup C).map (·.cls) = _
  rw [x]
  rfl
theorem hd_of {bm : List Value} (x : K.lookup C = some (excClassObj nm qn C N bs bm true sn sub ab col dd m0 m1 m2 m3 m5 "ValueError.__new__")) : PySem.W.hasDictIn K C = true := by
  obtain ⟨cd, h1, _, h3⟩ := cls_of x
  unfold PySem.W.hasDictIn
  rw [h1]
  exact h3
theorem erc_mk (xL : K.lookup C = some (excClassObj nm qn C N bs (bmT CT) true sn sub ab col dd m0 m1 m2 m3 m5 "ValueError.__new__")) (sa : PySem.W.findIn K (.ref C) "__setattr__" = some (some (.builtin "object.__setattr__")))
    (ga : PySem.W.findIn K (.ref C) "__getattribute__" = some (some (.builtin "BaseException.__getattribute__"))) (gg : PySem.W.findIn K (.ref C) "__getattr__" = some none) (cl : PySem.W.findIn K (.ref C) "__class__" = some (some (.builtin "object.__class__"))) (kC : PySem.W.keepIn K (.ref C) = true) : ErC K C :=
  ⟨⟨⟨nm, qn, N, bs, bmT CT, sn, sub, ab, col, dd, m0, m1, m2, m3, m5, xL, show PySem.HandSPX.refsVE bmV = true by decide +kernel⟩, sa, mro_of xL _, ty_of xL, kC⟩, ga, gg, cl⟩
theorem exm_mk (xL : K.lookup C = some (excClassObj nm qn C N bs (bmT CT) true sn sub ab col dd m0 m1 m2 m3 m5 "ValueError.__new__")) (sb : PySem.W.subIn K (.ref C) (.type "BaseException") = some true) : PySem.W.exmOne K (.ref C) (.ref C) = some true := by
  have e1 : (PySem.W.subIn K (.ref C) (.type "BaseException") == some true) = true := by rw [sb] <;> rfl
  unfold PySem.W.exmOne
  rw [if_pos e1]
  obtain ⟨cd, h1, _⟩ := cls_of xL
  show (if ((PySem.W.clsIn K C).isSome && PySem.W.typeIn K (.ref C) == some (.type "type")) = true then PySem.W.subIn K (.ref C) (.ref C) else none) = _
  rw [h1, ty_of xL]
  show PySem.W.mroIn K C (.ref C) = _
  rw [mro_of xL]
  simp
end
theorem all_mk {l : PySem.W.OpenLaw} {w : World} {K : PySem.W.Frag} {h : Heap} {mg : Str → Option Value} {fa : Addr} (X : K.In h) (G : h.Ns mainGlobals mg) (hfa : mg "law" = some (.ref fa))
    {CT C : Addr}
    {CB : Addr} {xnB xqB : Str} {xNB : Addr} {xbB xuB : List Value} {xsB : List Str} {xvB : Bool} {xoB : Option Bool} {xdB : Option Addr} {maB mbB mcB mdB mfB : Option Value}
    {fEB : Addr} {ocEB kVEB dcEB pmEB cdEB ctEB : Value} {odEB anEB : Option Addr} {slEB : Array (Option Value)}
    {CN : Addr} {xnN xqN : Str} {xNN : Addr} {xbN xuN : List Value} {xsN : List Str} {xvN : Bool} {xoN : Option Bool} {xdN : Option Addr} {maN mbN mcN mdN mfN : Option Value}
    {fEN : Addr} {ocEN kVEN dcEN pmEN cdEN ctEN : Value} {odEN anEN : Option Addr} {slEN : Array (Option Value)}
    {fI : Addr} {ocI kVI dcI pmI cdI ctI : Value} {odI anI : Option Addr} {slI : Array (Option Value)}
    {TD TE : Addr} {nT : Nat} {oT : Option Addr} {sT : Array (Option Value)} {ocT : Value}
    {fnm : Addr} {ocnm kVnm dcnm pmnm cdnm ctnm : Value} {odnm annm : Option Addr} {slnm : Array (Option Value)}
    {ftv : Addr} {octv kVtv dctv pmtv cdtv cttv : Value} {odtv antv : Option Addr} {sltv : Array (Option Value)}
    {fco : Addr} {occo kVco dcco pmco cdco ctco : Value} {odco anco : Option Addr} {slco : Array (Option Value)}
    {fisW : Addr} {ocisW kVisW dcisW pmisW cdisW ctisW : Value} {odisW anisW : Option Addr} {slisW : Array (Option Value)}
    {fisL : Addr} {ocisL kVisL dcisL pmisL cdisL ctisL : Value} {odisL anisL : Option Addr} {slisL : Array (Option Value)}
    {fisN : Addr} {ocisN kVisN dcisN pmisN cdisN ctisN : Value} {odisN anisN : Option Addr} {slisN : Array (Option Value)}
    {fare : Addr} {ocare kVare dcare pmare cdare ctare : Value} {odare anare : Option Addr} {slare : Array (Option Value)}
    {ftold : Addr} {octold kVtold dctold pmtold cdtold cttold : Value} {odtold antold : Option Addr} {sltold : Array (Option Value)}
    {flW : Addr} {oclW kVlW dclW pmlW cdlW ctlW : Value} {odlW anlW : Option Addr} {sllW : Array (Option Value)}
    {ffz : Addr} {ocfz kVfz dcfz pmfz cdfz ctfz : Value} {odfz anfz : Option Addr} {slfz : Array (Option Value)}
    {fdraw : Addr} {ocdraw kVdraw dcdraw pmdraw cddraw ctdraw : Value} {oddraw andraw : Option Addr} {sldraw : Array (Option Value)}
    {fstart : Addr} {ocstart kVstart dcstart pmstart cdstart ctstart : Value} {odstart anstart : Option Addr} {slstart : Array (Option Value)}
    {fpick : Addr} {ocpick kVpick dcpick pmpick cdpick ctpick : Value} {odpick anpick : Option Addr} {slpick : Array (Option Value)}
    {fsame : Addr} {ocsame kVsame dcsame pmsame cdsame ctsame : Value} {odsame ansame : Option Addr} {slsame : Array (Option Value)}
    {flT : Addr} {oclT kVlT dclT pmlT cdlT ctlT : Value} {odlT anlT : Option Addr} {sllT : Array (Option Value)}
    {ffw : Addr} {ocfw kVfw dcfw pmfw cdfw ctfw : Value} {odfw anfw : Option Addr} {slfw : Array (Option Value)}
    {fsp : Addr} {ocsp kVsp dcsp pmsp cdsp ctsp : Value} {odsp ansp : Option Addr} {slsp : Array (Option Value)}
    {fmd : Addr} {ocmd kVmd dcmd pmmd cdmd ctmd : Value} {odmd anmd : Option Addr} {slmd : Array (Option Value)}
    {fak : Addr} {ocak kVak dcak pmak cdak ctak : Value} {odak anak : Option Addr} {slak : Array (Option Value)}
    {flaw : Addr} {oclaw kVlaw dclaw pmlaw cdlaw ctlaw : Value} {odlaw anlaw : Option Addr} {sllaw : Array (Option Value)}
    {tLE tML tMV tMC tMF : _}
    (aB : PySem.W.nsIn K mainGlobals "BadColumns" = some (some (.ref CB)))
    (xB : K.lookup CB = some (excClassObj xnB xqB CB xNB xbB (bmT CT) true xsB xuB xvB xoB xdB maB mbB mcB mdB mfB "ValueError.__new__"))
    (saB : PySem.W.findIn K (.ref CB) "__setattr__" = some (some (.builtin "object.__setattr__")))
    (gaB : PySem.W.findIn K (.ref CB) "__getattribute__" = some (some (.builtin "BaseException.__getattribute__")))
    (ggB : PySem.W.findIn K (.ref CB) "__getattr__" = some none)
    (clB : PySem.W.findIn K (.ref CB) "__class__" = some (some (.builtin "object.__class__")))
    (kCB : PySem.W.keepIn K (.ref CB) = true)
    (iB : PySem.W.findIn K (.ref CB) "__init__" = some (some (.ref fEB)))
    (tB : PySem.W.typeIn K (.ref fEB) = some (.type "function"))
    (noB : PySem.W.findIn K (.ref CB) "index" = some none)
    (lB : K.lookup fEB = some ⟨ocEB, odEB, .func (PySem.W.fnOf "__init__" "BadColumns.__init__" (defArgs sEB) (defBody sEB) (defScope sEB) .none kVEB dcEB pmEB anEB cdEB ctEB), slEB⟩)
    (cB : PySem.W.codeIn K cdEB "BadColumns.__init__" = true)
    (kfB : PySem.W.keepIn K (.ref fEB) = true)
    (sbB : PySem.W.subIn K (.ref CB) (.type "BaseException") = some true)
    (aN : PySem.W.nsIn K mainGlobals "NoColumn" = some (some (.ref CN)))
    (xN : K.lookup CN = some (excClassObj xnN xqN CN xNN xbN (bmT CT) true xsN xuN xvN xoN xdN maN mbN mcN mdN mfN "ValueError.__new__"))
    (saN : PySem.W.findIn K (.ref CN) "__setattr__" = some (some (.builtin "object.__setattr__")))
    (gaN : PySem.W.findIn K (.ref CN) "__getattribute__" = some (some (.builtin "BaseException.__getattribute__")))
    (ggN : PySem.W.findIn K (.ref CN) "__getattr__" = some none)
    (clN : PySem.W.findIn K (.ref CN) "__class__" = some (some (.builtin "object.__class__")))
    (kCN : PySem.W.keepIn K (.ref CN) = true)
    (iN : PySem.W.findIn K (.ref CN) "__init__" = some (some (.ref fEN)))
    (tN : PySem.W.typeIn K (.ref fEN) = some (.type "function"))
    (noN : PySem.W.findIn K (.ref CN) "name" = some none)
    (lN : K.lookup fEN = some ⟨ocEN, odEN, .func (PySem.W.fnOf "__init__" "NoColumn.__init__" (defArgs sEN) (defBody sEN) (defScope sEN) .none kVEN dcEN pmEN anEN cdEN ctEN), slEN⟩)
    (cN : PySem.W.codeIn K cdEN "NoColumn.__init__" = true)
    (kfN : PySem.W.keepIn K (.ref fEN) = true)
    (sbN : PySem.W.subIn K (.ref CN) (.type "BaseException") = some true)
    (aC : PySem.W.nsIn K mainGlobals "Columns" = some (some (.ref C)))
    (pg : PySem.W.plainGet K C Str.empty = true)
    (hd : PySem.W.hasDictIn K C = true)
    (po : PySem.W.plainOver K C = true)
    (saC : PySem.W.findIn K (.ref C) "__setattr__" = some (some (.builtin "object.__setattr__")))
    (nVC : PySem.W.findIn K (.ref C) "_values" = some none)
    (mkC : PySem.W.makesIn K C = true)
    (kCC : PySem.W.keepIn K (.ref C) = true)
    (iC : PySem.W.findIn K (.ref C) "__init__" = some (some (.ref fI)))
    (fnI : PySem.W.isFn K (.ref fI) = true)
    (lI : K.lookup fI = some ⟨ocI, odI, .func (PySem.W.fnOf "__init__" "Columns.__init__" (defArgs sInit) (defBody sInit) (defScope sInit) (.ref TD) kVI dcI pmI anI cdI ctI), slI⟩)
    (cI : PySem.W.codeIn K cdI "Columns.__init__" = true)
    (kfI : PySem.W.keepIn K (.ref fI) = true)
    (lTD : K.lookup TD = some ⟨ocT, oT, .seq #[.ref TE] nT, sT⟩)
    (inm : PySem.W.findIn K (.ref C) "names" = some (some (.ref fnm)))
    (fnnm : PySem.W.isFn K (.ref fnm) = true)
    (lnm : K.lookup fnm = some ⟨ocnm, odnm, .func (PySem.W.fnOf "names" "Columns.names" (defArgs sNames) (defBody sNames) (defScope sNames) .none kVnm dcnm pmnm annm cdnm ctnm), slnm⟩)
    (cnm : PySem.W.codeIn K cdnm "Columns.names" = true)
    (knm : PySem.W.keepIn K (.ref fnm) = true)
    (itv : PySem.W.findIn K (.ref C) "told_values" = some (some (.ref ftv)))
    (fntv : PySem.W.isFn K (.ref ftv) = true)
    (ltv : K.lookup ftv = some ⟨octv, odtv, .func (PySem.W.fnOf "told_values" "Columns.told_values" (defArgs sTV) (defBody sTV) (defScope sTV) .none kVtv dctv pmtv antv cdtv cttv), sltv⟩)
    (ctv : PySem.W.codeIn K cdtv "Columns.told_values" = true)
    (ktv : PySem.W.keepIn K (.ref ftv) = true)
    (ico : PySem.W.findIn K (.ref C) "__contains__" = some (some (.ref fco)))
    (fnco : PySem.W.isFn K (.ref fco) = true)
    (lco : K.lookup fco = some ⟨occo, odco, .func (PySem.W.fnOf "__contains__" "Columns.__contains__" (defArgs sCon) (defBody sCon) (defScope sCon) .none kVco dcco pmco anco cdco ctco), slco⟩)
    (cco : PySem.W.codeIn K cdco "Columns.__contains__" = true)
    (kco : PySem.W.keepIn K (.ref fco) = true)
    (aisW : PySem.W.nsIn K mainGlobals "is_word" = some (some (.ref fisW)))
    (lisW : K.lookup fisW = some ⟨ocisW, odisW, .func (PySem.W.fnOf "is_word" "is_word" (defArgs sIsW) (defBody sIsW) (defScope sIsW) .none kVisW dcisW pmisW anisW cdisW ctisW), slisW⟩)
    (cisW : PySem.W.codeIn K cdisW "is_word" = true)
    (kisW : PySem.W.keepIn K (.ref fisW) = true)
    (aisL : PySem.W.nsIn K mainGlobals "is_list" = some (some (.ref fisL)))
    (lisL : K.lookup fisL = some ⟨ocisL, odisL, .func (PySem.W.fnOf "is_list" "is_list" (defArgs sIsL) (defBody sIsL) (defScope sIsL) .none kVisL dcisL pmisL anisL cdisL ctisL), slisL⟩)
    (cisL : PySem.W.codeIn K cdisL "is_list" = true)
    (kisL : PySem.W.keepIn K (.ref fisL) = true)
    (aisN : PySem.W.nsIn K mainGlobals "_is_name" = some (some (.ref fisN)))
    (lisN : K.lookup fisN = some ⟨ocisN, odisN, .func (PySem.W.fnOf "_is_name" "_is_name" (defArgs sIsN) (defBody sIsN) (defScope sIsN) .none kVisN dcisN pmisN anisN cdisN ctisN), slisN⟩)
    (cisN : PySem.W.codeIn K cdisN "_is_name" = true)
    (kisN : PySem.W.keepIn K (.ref fisN) = true)
    (aare : PySem.W.nsIn K mainGlobals "_are_values" = some (some (.ref fare)))
    (lare : K.lookup fare = some ⟨ocare, odare, .func (PySem.W.fnOf "_are_values" "_are_values" (defArgs sAre) (defBody sAre) (defScope sAre) .none kVare dcare pmare anare cdare ctare), slare⟩)
    (care : PySem.W.codeIn K cdare "_are_values" = true)
    (kare : PySem.W.keepIn K (.ref fare) = true)
    (atold : PySem.W.nsIn K mainGlobals "_is_told" = some (some (.ref ftold)))
    (ltold : K.lookup ftold = some ⟨octold, odtold, .func (PySem.W.fnOf "_is_told" "_is_told" (defArgs sTold) (defBody sTold) (defScope sTold) .none kVtold dctold pmtold antold cdtold cttold), sltold⟩)
    (ctold : PySem.W.codeIn K cdtold "_is_told" = true)
    (ktold : PySem.W.keepIn K (.ref ftold) = true)
    (alW : PySem.W.nsIn K mainGlobals "_law_is_word" = some (some (.ref flW)))
    (llW : K.lookup flW = some ⟨oclW, odlW, .func (PySem.W.fnOf "_law_is_word" "_law_is_word" (defArgs sLIsW) (defBody sLIsW) (defScope sLIsW) .none kVlW dclW pmlW anlW cdlW ctlW), sllW⟩)
    (clW : PySem.W.codeIn K cdlW "_law_is_word" = true)
    (klW : PySem.W.keepIn K (.ref flW) = true)
    (afz : PySem.W.nsIn K mainGlobals "_law_m_frozen" = some (some (.ref ffz)))
    (lfz : K.lookup ffz = some ⟨ocfz, odfz, .func (PySem.W.fnOf "_law_m_frozen" "_law_m_frozen" (defArgs sFz) (defBody sFz) (defScope sFz) .none kVfz dcfz pmfz anfz cdfz ctfz), slfz⟩)
    (cfz : PySem.W.codeIn K cdfz "_law_m_frozen" = true)
    (kfz : PySem.W.keepIn K (.ref ffz) = true)
    (adraw : PySem.W.nsIn K mainGlobals "_law_draw" = some (some (.ref fdraw)))
    (ldraw : K.lookup fdraw = some ⟨ocdraw, oddraw, .func (PySem.W.fnOf "_law_draw" "_law_draw" (defArgs sDraw) (defBody sDraw) (defScope sDraw) .none kVdraw dcdraw pmdraw andraw cddraw ctdraw), sldraw⟩)
    (cdraw : PySem.W.codeIn K cddraw "_law_draw" = true)
    (kdraw : PySem.W.keepIn K (.ref fdraw) = true)
    (astart : PySem.W.nsIn K mainGlobals "_law_start" = some (some (.ref fstart)))
    (lstart : K.lookup fstart = some ⟨ocstart, odstart, .func (PySem.W.fnOf "_law_start" "_law_start" (defArgs sStart) (defBody sStart) (defScope sStart) .none kVstart dcstart pmstart anstart cdstart ctstart), slstart⟩)
    (cstart : PySem.W.codeIn K cdstart "_law_start" = true)
    (kstart : PySem.W.keepIn K (.ref fstart) = true)
    (apick : PySem.W.nsIn K mainGlobals "_law_pick" = some (some (.ref fpick)))
    (lpick : K.lookup fpick = some ⟨ocpick, odpick, .func (PySem.W.fnOf "_law_pick" "_law_pick" (defArgs sPick) (defBody sPick) (defScope sPick) .none kVpick dcpick pmpick anpick cdpick ctpick), slpick⟩)
    (cpick : PySem.W.codeIn K cdpick "_law_pick" = true)
    (kpick : PySem.W.keepIn K (.ref fpick) = true)
    (asame : PySem.W.nsIn K mainGlobals "_law_same" = some (some (.ref fsame)))
    (lsame : K.lookup fsame = some ⟨ocsame, odsame, .func (PySem.W.fnOf "_law_same" "_law_same" (defArgs sSame) (defBody sSame) (defScope sSame) .none kVsame dcsame pmsame ansame cdsame ctsame), slsame⟩)
    (csame : PySem.W.codeIn K cdsame "_law_same" = true)
    (ksame : PySem.W.keepIn K (.ref fsame) = true)
    (alT : PySem.W.nsIn K mainGlobals "_law_is_told" = some (some (.ref flT)))
    (llT : K.lookup flT = some ⟨oclT, odlT, .func (PySem.W.fnOf "_law_is_told" "_law_is_told" (defArgs sLTold) (defBody sLTold) (defScope sLTold) .none kVlT dclT pmlT anlT cdlT ctlT), sllT⟩)
    (clT : PySem.W.codeIn K cdlT "_law_is_told" = true)
    (klT : PySem.W.keepIn K (.ref flT) = true)
    (afw : PySem.W.nsIn K mainGlobals "_law_first_wrong" = some (some (.ref ffw)))
    (lfw : K.lookup ffw = some ⟨ocfw, odfw, .func (PySem.W.fnOf "_law_first_wrong" "_law_first_wrong" (defArgs sFW) (defBody sFW) (defScope sFW) .none kVfw dcfw pmfw anfw cdfw ctfw), slfw⟩)
    (cfw : PySem.W.codeIn K cdfw "_law_first_wrong" = true)
    (kfw : PySem.W.keepIn K (.ref ffw) = true)
    (asp : PySem.W.nsIn K mainGlobals "_law_spoilt" = some (some (.ref fsp)))
    (lsp : K.lookup fsp = some ⟨ocsp, odsp, .func (PySem.W.fnOf "_law_spoilt" "_law_spoilt" (defArgs sSp) (defBody sSp) (defScope sSp) .none kVsp dcsp pmsp ansp cdsp ctsp), slsp⟩)
    (csp : PySem.W.codeIn K cdsp "_law_spoilt" = true)
    (ksp : PySem.W.keepIn K (.ref fsp) = true)
    (amd : PySem.W.nsIn K mainGlobals "_law_made_so" = some (some (.ref fmd)))
    (lmd : K.lookup fmd = some ⟨ocmd, odmd, .func (PySem.W.fnOf "_law_made_so" "_law_made_so" (defArgs sMd) (defBody sMd) (defScope sMd) .none kVmd dcmd pmmd anmd cdmd ctmd), slmd⟩)
    (cmd : PySem.W.codeIn K cdmd "_law_made_so" = true)
    (kmd : PySem.W.keepIn K (.ref fmd) = true)
    (aak : PySem.W.nsIn K mainGlobals "_law_asked" = some (some (.ref fak)))
    (lak : K.lookup fak = some ⟨ocak, odak, .func (PySem.W.fnOf "_law_asked" "_law_asked" (defArgs sAk) (defBody sAk) (defScope sAk) .none kVak dcak pmak anak cdak ctak), slak⟩)
    (cak : PySem.W.codeIn K cdak "_law_asked" = true)
    (kak : PySem.W.keepIn K (.ref fak) = true)
    (alaw : PySem.W.nsIn K mainGlobals "law" = some (some (.ref flaw)))
    (llaw : K.lookup flaw = some ⟨oclaw, odlaw, .func (PySem.W.fnOf "law" "law" (defArgs sLaw) (defBody sLaw) (defScope sLaw) .none kVlaw dclaw pmlaw anlaw cdlaw ctlaw), sllaw⟩)
    (claw : PySem.W.codeIn K cdlaw "law" = true)
    (klaw : PySem.W.keepIn K (.ref flaw) = true)
    (gLE : PySem.W.nsIn K mainGlobals "LETTERS" = some (some (.str "abcdefghijklmnopqrstuvwxyz" tLE)))
    (gML : PySem.W.nsIn K mainGlobals "MOST_LETTERS" = some (some (.int 8 tML)))
    (gMV : PySem.W.nsIn K mainGlobals "MOST_VALUES" = some (some (.int 3 tMV)))
    (gMC : PySem.W.nsIn K mainGlobals "MOST_COLUMNS" = some (some (.int 3 tMC)))
    (gMF : PySem.W.nsIn K mainGlobals "MOST_FREE" = some (some (.int 2 tMF)))
    (z_int : PySem.W.nsIn K mainGlobals "int" = some none)
    (z_list : PySem.W.nsIn K mainGlobals "list" = some none)
    (z_range : PySem.W.nsIn K mainGlobals "range" = some none)
    (z_tuple : PySem.W.nsIn K mainGlobals "tuple" = some none)
    (z_isinstance : PySem.W.nsIn K mainGlobals "isinstance" = some none)
    (z_bool : PySem.W.nsIn K mainGlobals "bool" = some none)
    (z_len : PySem.W.nsIn K mainGlobals "len" = some none)
    (z_all : PySem.W.nsIn K mainGlobals "all" = some none)
    (z_zip : PySem.W.nsIn K mainGlobals "zip" = some none)
    (z_enumerate : PySem.W.nsIn K mainGlobals "enumerate" = some none)
    (z_str : PySem.W.nsIn K mainGlobals "str" = some none)
    (z_set : PySem.W.nsIn K mainGlobals "set" = some none) :
    ∃ fd : FuncData, (∀ (s : Shared) (v : Value), BindsTo s fd ⟨[v], []⟩ [("_law_script", v)]) ∧ ∀ base : Heap, K.In base → base.Ns mainGlobals mg → FnOk l.prog w K mg base CX0 9 fa fd ["_law_script"] (spLaw K) := by
  have e := hfa.symm.trans (PySem.W.mg_of X G alaw)
  cases e
  have eB := erc_mk xB saB gaB ggB clB kCB
  have FB := fun_mk (st := sEB) lB cB kfB
  have bB := FB.binds (ps := ["self", "index"]) fun _ _ _ _ _ _ us hl => match us, hl with | [_, _], _ => rfl
  have exB := exm_mk xB sbB
  have xfB : XfC K CB := ⟨gaB, ggB, sbB, hd_of xB⟩
  have eN := erc_mk xN saN gaN ggN clN kCN
  have FN := fun_mk (st := sEN) lN cN kfN
  have bN := FN.binds (ps := ["self", "name"]) fun _ _ _ _ _ _ us hl => match us, hl with | [_, _], _ => rfl
  have exN := exm_mk xN sbN
  have xfN : XfC K CN := ⟨gaN, ggN, sbN, hd_of xN⟩
  have Fnm := fun_mk (st := sNames) lnm cnm knm
  have bnm := Fnm.binds (ps := ["self"]) fun _ _ _ _ _ _ us hl => match us, hl with | [_], _ => rfl
  have Ftv := fun_mk (st := sTV) ltv ctv ktv
  have btv := Ftv.binds (ps := ["self", "name"]) fun _ _ _ _ _ _ us hl => match us, hl with | [_, _], _ => rfl
  have Fco := fun_mk (st := sCon) lco cco kco
  have bco := Fco.binds (ps := ["self", "thing"]) fun _ _ _ _ _ _ us hl => match us, hl with | [_, _], _ => rfl
  have FisW := fun_mk (st := sIsW) lisW cisW kisW
  have bisW := FisW.binds (ps := ["thing"]) fun _ _ _ _ _ _ us hl => match us, hl with | [_], _ => rfl
  have FisL := fun_mk (st := sIsL) lisL cisL kisL
  have bisL := FisL.binds (ps := ["thing"]) fun _ _ _ _ _ _ us hl => match us, hl with | [_], _ => rfl
  have FisN := fun_mk (st := sIsN) lisN cisN kisN
  have bisN := FisN.binds (ps := ["thing"]) fun _ _ _ _ _ _ us hl => match us, hl with | [_], _ => rfl
  have Fare := fun_mk (st := sAre) lare care kare
  have bare := Fare.binds (ps := ["thing"]) fun _ _ _ _ _ _ us hl => match us, hl with | [_], _ => rfl
  have Ftold := fun_mk (st := sTold) ltold ctold ktold
  have btold := Ftold.binds (ps := ["thing"]) fun _ _ _ _ _ _ us hl => match us, hl with | [_], _ => rfl
  have FlW := fun_mk (st := sLIsW) llW clW klW
  have blW := FlW.binds (ps := ["_law_thing"]) fun _ _ _ _ _ _ us hl => match us, hl with | [_], _ => rfl
  have Ffz := fun_mk (st := sFz) lfz cfz kfz
  have bfz := Ffz.binds (ps := ["_law_thing"]) fun _ _ _ _ _ _ us hl => match us, hl with | [_], _ => rfl
  have Fdraw := fun_mk (st := sDraw) ldraw cdraw kdraw
  have bdraw := Fdraw.binds (ps := ["_law_stream", "_law_many"]) fun _ _ _ _ _ _ us hl => match us, hl with | [_, _], _ => rfl
  have Fstart := fun_mk (st := sStart) lstart cstart kstart
  have bstart := Fstart.binds (ps := ["_law_script"]) fun _ _ _ _ _ _ us hl => match us, hl with | [_], _ => rfl
  have Fpick := fun_mk (st := sPick) lpick cpick kpick
  have bpick := Fpick.binds (ps := ["_law_stream", "_law_some"]) fun _ _ _ _ _ _ us hl => match us, hl with | [_, _], _ => rfl
  have Fsame := fun_mk (st := sSame) lsame csame ksame
  have bsame := Fsame.binds (ps := ["_law_found", "_law_due"]) fun _ _ _ _ _ _ us hl => match us, hl with | [_, _], _ => rfl
  have FlT := fun_mk (st := sLTold) llT clT klT
  have blT := FlT.binds (ps := ["_law_thing"]) fun _ _ _ _ _ _ us hl => match us, hl with | [_], _ => rfl
  have Ffw := fun_mk (st := sFW) lfw cfw kfw
  have bfw := Ffw.binds (ps := ["_law_told", "_law_free"]) fun _ _ _ _ _ _ us hl => match us, hl with | [_, _], _ => rfl
  have Fsp := fun_mk (st := sSp) lsp csp ksp
  have bsp := Fsp.binds (ps := ["_law_stream", "_law_told", "_law_free"]) fun _ _ _ _ _ _ us hl => match us, hl with | [_, _, _], _ => rfl
  have Fmd := fun_mk (st := sMd) lmd cmd kmd
  have bmd := Fmd.binds (ps := ["_law_told", "_law_free"]) fun _ _ _ _ _ _ us hl => match us, hl with | [_, _], _ => rfl
  have Fak := fun_mk (st := sAk) lak cak kak
  have bak := Fak.binds (ps := ["_law_columns", "_law_thing"]) fun _ _ _ _ _ _ us hl => match us, hl with | [_, _], _ => rfl
  have Flaw := fun_mk (st := sLaw) llaw claw klaw
  have y_int := PySem.W.mg_none_of X G z_int
  have y_list := PySem.W.mg_none_of X G z_list
  have y_range := PySem.W.mg_none_of X G z_range
  have y_tuple := PySem.W.mg_none_of X G z_tuple
  have y_isinstance := PySem.W.mg_none_of X G z_isinstance
  have y_bool := PySem.W.mg_none_of X G z_bool
  have y_len := PySem.W.mg_none_of X G z_len
  have y_all := PySem.W.mg_none_of X G z_all
  have y_zip := PySem.W.mg_none_of X G z_zip
  have y_enumerate := PySem.W.mg_none_of X G z_enumerate
  have y_str := PySem.W.mg_none_of X G z_str
  have y_set := PySem.W.mg_none_of X G z_set
  have FI : FunD K "__init__" "Columns.__init__" (defArgs sInit) (defBody sInit) (defScope sInit) [V.ref TE] [] fI (PySem.W.fnOf "__init__" "Columns.__init__" (defArgs sInit) (defBody sInit) (defScope sInit) (.ref TD) kVI dcI pmI anI cdI ctI) := ⟨⟨ocI, odI, .ref TD, kVI, dcI, pmI, anI, cdI, ctI, slI, rfl, lI, cI, .inr ⟨by simp, TD, _, [.ref TE], nT, rfl, lTD, rfl, .cons rfl .nil⟩, .inl rfl⟩, kfI⟩
  obtain ⟨dsI, vI, bI'⟩ := FI.binds1 (ps := ["self", "told", "free"]) 3 1 (by simp) rfl (fun T kV doc pm an cdv ct us its hl hl2 => match us, its, hl, hl2 with | [_, _, _], [_], _, _ => ⟨_, rfl, rfl⟩)
  have bI : Binds K (PySem.W.fnOf "__init__" "Columns.__init__" (defArgs sInit) (defBody sInit) (defScope sInit) (.ref TD) kVI dcI pmI anI cdI ctI) ["self", "told", "free"] [] := by
    cases vI
    exact bI'
  have cls : Cls K C := ⟨pg, hd, po, saC⟩
  have TW : TxW mg := ⟨y_isinstance, y_str, y_len, y_all, y_list, y_tuple, y_set, ⟨_, PySem.W.mg_of X G gLE⟩, ⟨_, PySem.W.mg_of X G gML⟩⟩
  have TN : TxN K mg fisW fisL fisN fare := ⟨PySem.W.mg_of X G aisW, kisW, PySem.W.mg_of X G aisL, kisL, PySem.W.mg_of X G aisN, kisN, PySem.W.mg_of X G aare, kare, ⟨_, PySem.W.mg_of X G gMV⟩⟩
  have TI : TxI K mg C CB fEB ftold := ⟨cls, nVC, eB, iB, tB, noB, PySem.W.mg_of X G aB, y_enumerate, PySem.W.mg_of X G atold, ktold, ⟨_, PySem.W.mg_of X G gMC⟩, ⟨_, PySem.W.mg_of X G gMF⟩⟩
  have TJ : TxJ K mg C CN fEN fco := ⟨cls, nVC, eN, iN, tN, noN, PySem.W.mg_of X G aN, ⟨ico, fnco⟩⟩
  have TM : TxM K mg C CB CN fI fnm ftv := ⟨⟨mkC, iC, fnI, kCC⟩, PySem.W.mg_of X G aC, ⟨inm, fnnm, knm⟩, ⟨itv, fntv, ktv⟩, exB, exN, xfB, xfN⟩
  refine ⟨PySem.W.fnOf "law" "law" (defArgs sLaw) (defBody sLaw) (defScope sLaw) .none kVlaw dclaw pmlaw anlaw cdlaw ctlaw, fun s v => .of_eq rfl, fun base _ _ => ?_⟩
  have Gdr := ok_draw (P := l.prog) (w := w) (base := base) Fdraw ⟨y_int, y_list⟩
  have Gst := ok_start (P := l.prog) (w := w) (base := base) Fstart ⟨y_int, y_list⟩
  have GW := ok_isW (P := l.prog) (w := w) (base := base) FisW TW
  have GlW := ok_lIsW (P := l.prog) (w := w) (base := base) FlW TW
  have GL := ok_isL (P := l.prog) (w := w) (base := base) FisL TW
  have GN := ok_isN (disL := (PySem.W.fnOf "__init__" "Columns.__init__" (defArgs sInit) (defBody sInit) (defScope sInit) (.ref TD) kVI dcI pmI anI cdI ctI)) (disN := (PySem.W.fnOf "__init__" "Columns.__init__" (defArgs sInit) (defBody sInit) (defScope sInit) (.ref TD) kVI dcI pmI anI cdI ctI)) (dare := (PySem.W.fnOf "__init__" "Columns.__init__" (defArgs sInit) (defBody sInit) (defScope sInit) (.ref TD) kVI dcI pmI anI cdI ctI)) (P := l.prog) (w := w) (base := base) FisN TN GW bisW
  have GA := ok_are (disN := (PySem.W.fnOf "__init__" "Columns.__init__" (defArgs sInit) (defBody sInit) (defScope sInit) (.ref TD) kVI dcI pmI anI cdI ctI)) (dare := (PySem.W.fnOf "__init__" "Columns.__init__" (defArgs sInit) (defBody sInit) (defScope sInit) (.ref TD) kVI dcI pmI anI cdI ctI)) (P := l.prog) (w := w) (base := base) Fare TW TN GW bisW GL bisL
  have GT := ok_told (disW := (PySem.W.fnOf "__init__" "Columns.__init__" (defArgs sInit) (defBody sInit) (defScope sInit) (.ref TD) kVI dcI pmI anI cdI ctI)) (P := l.prog) (w := w) (base := base) Ftold TW TN GL bisL GN bisN GA bare
  have GeB := ok_eB (P := l.prog) (w := w) (base := base) (mg := mg) FB eB noB
  have GeN := ok_eN (P := l.prog) (w := w) (base := base) (mg := mg) FN eN noN
  have GI := ok_init (disW := (PySem.W.fnOf "__init__" "Columns.__init__" (defArgs sInit) (defBody sInit) (defScope sInit) (.ref TD) kVI dcI pmI anI cdI ctI)) (disL := (PySem.W.fnOf "__init__" "Columns.__init__" (defArgs sInit) (defBody sInit) (defScope sInit) (.ref TD) kVI dcI pmI anI cdI ctI)) (dare := (PySem.W.fnOf "__init__" "Columns.__init__" (defArgs sInit) (defBody sInit) (defScope sInit) (.ref TD) kVI dcI pmI anI cdI ctI)) (P := l.prog) (w := w) (base := base) FI TW TN TI GeB bB GN bisN GT btold
  have Gnm := ok_names (P := l.prog) (w := w) (base := base) Fnm TW TJ
  have Gco := ok_con (P := l.prog) (w := w) (base := base) Fco TW TJ
  have Gtv := ok_tv (P := l.prog) (w := w) (base := base) Ftv TJ GeN bN Gco bco
  have GlT := ok_ltold (P := l.prog) (w := w) (base := base) FlT TW (PySem.W.mg_of X G alW) klW GlW blW
  have Gfw := ok_fw (P := l.prog) (w := w) (base := base) Ffw TW (PySem.W.mg_of X G alW) klW (PySem.W.mg_of X G alT) klT y_enumerate GlW blW GlT blT
  have Gsm := ok_same (P := l.prog) (w := w) (base := base) Fsame ⟨y_isinstance, y_list, y_tuple, y_int, y_bool, y_len, y_all, y_zip, PySem.W.mg_of X G asame, ksame⟩ bsame 7
  have Gfz := ok_fz (P := l.prog) (w := w) (base := base) Ffz ⟨y_isinstance, y_list, y_tuple, y_len, PySem.W.mg_of X G afz, kfz⟩ bfz 7
  have Gpk := ok_pick (P := l.prog) (w := w) (base := base) Fpick TW (PySem.W.mg_of X G adraw) kdraw Gdr bdraw
  have Gmd := ok_made (P := l.prog) (w := w) (base := base) Fmd TI TM GI bI Gnm bnm
  have Gak := ok_asked (P := l.prog) (w := w) (base := base) Fak TI TJ TM Gtv btv
  have Gsp := ok_sp (P := l.prog) (w' := w) (base := base) Fsp TW (PySem.W.mg_of X G adraw) kdraw (PySem.W.mg_of X G apick) kpick Gdr bdraw Gpk bpick
  exact ok_law Flaw ⟨y_range, y_list, y_tuple, y_isinstance⟩ ⟨mkC, iC, fnI, kCC⟩ (PySem.W.mg_of X G aC) GI bI
    (PySem.W.mg_of X G astart) kstart (PySem.W.mg_of X G apick) kpick (PySem.W.mg_of X G adraw) kdraw (PySem.W.mg_of X G asp) ksp (PySem.W.mg_of X G afw) kfw (PySem.W.mg_of X G amd) kmd (PySem.W.mg_of X G asame) ksame (PySem.W.mg_of X G afz) kfz (PySem.W.mg_of X G aak) kak
    Gst bstart Gpk bpick Gdr bdraw Gsp bsp Gfw bfw Gmd bmd Gsm bsame Gfz bfz Gak bak
theorem walk {l : PySem.W.OpenLaw} {q : Program} {loose : List Str} {XP : (Str → Option Value) → Heap → Prop} {YP : World → Heap → Prop} {d : DefRec} {K : Params → PySem.W.Frag} (hn : l.most = some 63) (hdf : d.params.defaults = [])
    (hY : ∀ (w : World) (h : Heap), YP w h → (K w.params).In h)
    (F : ∀ (w : World) (mg : Str → Option Value) (fa : Addr) (h : Heap), (K w.params).In h → h.Ns mainGlobals mg → mg d.name = some (.ref fa) →
      ∃ fd : FuncData, (∀ (s : Shared) (u : Value), BindsTo s fd ⟨[u], []⟩ [("_law_script", u)]) ∧ ∀ base : Heap, (K w.params).In base → base.Ns mainGlobals mg → FnOk l.prog w (K w.params) mg base CX0 9 fa fd ["_law_script"] (spLaw (K w.params))) :
    PySem.W.WalkO q loose XP YP l.row.toRowW d [] (fun f vs => PySem.call f vs) :=
  L2.walk_of (n := 63) (k := 9) (x := "_law_script") (CX := fun _ => CX0) (sp := fun w => spLaw (K w.params)) hn (by decide) hdf ⟨rfl, by decide, by decide⟩ hY F (fun _ _ a ns hl _ hS => ⟨a, ns, rfl, hS, fun _ => rfl⟩) fun _ _ _ _ _ z => z
end L2.E2

open PySem PySem.W PyProof.Rows
set_option maxRecDepth 100000 in
set_option maxHeartbeats 0 in
theorem PySem.Challenge.cw_toldthere_k02_columns_refused_holds : PySem.Challenge.rw_toldthere_k02_columns_refused.Holds := by
  w_on; o_law; k_head; (case hw => w_witness2)
  k_fill
  refine L2.E2.walk (l := PySem.Challenge.rw_toldthere_k02_columns_refused) rfl rfl (fun w h Y => PySem.W.kIn_of Y) ?F
  case F =>
    intro w mg fa h KX G hmg
    refine' L2.E2.all_mk KX G hmg ?aB ?xB ?saB ?gaB ?ggB ?clB ?kCB ?iB ?tB ?noB ?lB ?cB ?kfB ?sbB ?aN ?xN ?saN ?gaN ?ggN ?clN ?kCN ?iN ?tN ?noN ?lN ?cN ?kfN ?sbN ?aC ?pg ?hd ?po ?saC ?nVC ?mkC ?kCC ?iC ?fnI ?lI ?cI ?kfI ?lTD ?inm ?fnnm ?lnm ?cnm ?knm ?itv ?fntv ?ltv ?ctv ?ktv ?ico ?fnco ?lco ?cco ?kco ?aisW ?lisW ?cisW ?kisW ?aisL ?lisL ?cisL ?kisL ?aisN ?lisN ?cisN ?kisN ?aare ?lare ?care ?kare ?atold ?ltold ?ctold ?ktold ?alW ?llW ?clW ?klW ?afz ?lfz ?cfz ?kfz ?adraw ?ldraw ?cdraw ?kdraw ?astart ?lstart ?cstart ?kstart ?apick ?lpick ?cpick ?kpick ?asame ?lsame ?csame ?ksame ?alT ?llT ?clT ?klT ?afw ?lfw ?cfw ?kfw ?asp ?lsp ?csp ?ksp ?amd ?lmd ?cmd ?kmd ?aak ?lak ?cak ?kak ?alaw ?llaw ?claw ?klaw ?gLE ?gML ?gMV ?gMC ?gMF ?z_int ?z_list ?z_range ?z_tuple ?z_isinstance ?z_bool ?z_len ?z_all ?z_zip ?z_enumerate ?z_str ?z_set
    (case aB => k_is)
    (case xB => k_is)
    (case saB => k_is)
    (case gaB => k_is)
    (case ggB => k_is)
    (case clB => k_is)
    (case kCB => k_is)
    (case iB => k_is)
    (case tB => k_is)
    (case noB => k_is)
    (case lB => k_is)
    (case cB => k_is)
    (case kfB => k_is)
    (case sbB => k_is)
    (case aN => k_is)
    (case xN => k_is)
    (case saN => k_is)
    (case gaN => k_is)
    (case ggN => k_is)
    (case clN => k_is)
    (case kCN => k_is)
    (case iN => k_is)
    (case tN => k_is)
    (case noN => k_is)
    (case lN => k_is)
    (case cN => k_is)
    (case kfN => k_is)
    (case sbN => k_is)
    (case aC => k_is)
    (case pg => k_is)
    (case hd => k_is)
    (case po => k_is)
    (case saC => k_is)
    (case nVC => k_is)
    (case mkC => k_is)
    (case kCC => k_is)
    (case iC => k_is)
    (case fnI => k_is)
    (case lI => k_is)
    (case cI => k_is)
    (case kfI => k_is)
    (case lTD => k_is)
    (case inm => k_is)
    (case fnnm => k_is)
    (case lnm => k_is)
    (case cnm => k_is)
    (case knm => k_is)
    (case itv => k_is)
    (case fntv => k_is)
    (case ltv => k_is)
    (case ctv => k_is)
    (case ktv => k_is)
    (case ico => k_is)
    (case fnco => k_is)
    (case lco => k_is)
    (case cco => k_is)
    (case kco => k_is)
    (case aisW => k_is)
    (case lisW => k_is)
    (case cisW => k_is)
    (case kisW => k_is)
    (case aisL => k_is)
    (case lisL => k_is)
    (case cisL => k_is)
    (case kisL => k_is)
    (case aisN => k_is)
    (case lisN => k_is)
    (case cisN => k_is)
    (case kisN => k_is)
    (case aare => k_is)
    (case lare => k_is)
    (case care => k_is)
    (case kare => k_is)
    (case atold => k_is)
    (case ltold => k_is)
    (case ctold => k_is)
    (case ktold => k_is)
    (case alW => k_is)
    (case llW => k_is)
    (case clW => k_is)
    (case klW => k_is)
    (case afz => k_is)
    (case lfz => k_is)
    (case cfz => k_is)
    (case kfz => k_is)
    (case adraw => k_is)
    (case ldraw => k_is)
    (case cdraw => k_is)
    (case kdraw => k_is)
    (case astart => k_is)
    (case lstart => k_is)
    (case cstart => k_is)
    (case kstart => k_is)
    (case apick => k_is)
    (case lpick => k_is)
    (case cpick => k_is)
    (case kpick => k_is)
    (case asame => k_is)
    (case lsame => k_is)
    (case csame => k_is)
    (case ksame => k_is)
    (case alT => k_is)
    (case llT => k_is)
    (case clT => k_is)
    (case klT => k_is)
    (case afw => k_is)
    (case lfw => k_is)
    (case cfw => k_is)
    (case kfw => k_is)
    (case asp => k_is)
    (case lsp => k_is)
    (case csp => k_is)
    (case ksp => k_is)
    (case amd => k_is)
    (case lmd => k_is)
    (case cmd => k_is)
    (case kmd => k_is)
    (case aak => k_is)
    (case lak => k_is)
    (case cak => k_is)
    (case kak => k_is)
    (case alaw => k_is)
    (case llaw => k_is)
    (case claw => k_is)
    (case klaw => k_is)
    (case gLE => k_is)
    (case gML => k_is)
    (case gMV => k_is)
    (case gMC => k_is)
    (case gMF => k_is)
    (case z_int => k_is)
    (case z_list => k_is)
    (case z_range => k_is)
    (case z_tuple => k_is)
    (case z_isinstance => k_is)
    (case z_bool => k_is)
    (case z_len => k_is)
    (case z_all => k_is)
    (case z_zip => k_is)
    (case z_enumerate => k_is)
    (case z_str => k_is)
    (case z_set => k_is)

