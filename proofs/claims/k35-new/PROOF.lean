import PyProof.Rows.All
import Wide.All
import OpenK.AllK
import Wide.FinOn
import HandS.ForMost
import HandS.Exc
import HandS.ExcInit
import HandS.IsInst
import HandS.Defaults
import HandS.DictEq
import HandS.OwnEq
import HandS.Zip
import KE.KExcIs
import HandS.Walk
import HandS.Codes
import KE.KEqSeq
import PySem.Challenge.RW_toldthere_k35_errors_made
import HandS.Style
import HandS.More
import HandS.ExcOwn
import HandS.ExcValue
set_option Elab.async false
set_option linter.all false
set_option maxRecDepth 100000
set_option maxHeartbeats 4000000
namespace Vx
open PySem PySem.W PySem.Calls PyProof.Rows PySem.HandSPX
section
variable {M : Model} {prog : Program} {w : World} {A : Around} {E : Value → Shared → Prop} {R : Result → Shared → Prop} {hp : Heap} {gs : Array GenState} {dr : Drawn} {tk : Nat} {os : OsState}
variable {nm qn : Str} {C N : Addr} {bs bm bmB : List Value} {hdct : Bool} {sn : List Str} {sub : List Value} {ab : Bool} {col : Option Bool} {dd : Option Addr} {k0 k1 k2 k3 k5 : Option Value} {B newId initId : String}

/-- BaseException.__new__ is asked with keywords -/
theorem ck_new (F : ExcBaseFacts B newId initId bmB) (hT : ∀ X : String, bm.contains (.type X) = bmB.contains (.type X)) {ps : List Value} {kw : List (Str × Value)} {Q : Unit → Shared → Prop}
    (hC : hp.get? C = some (excClassObj nm qn C N bs bm hdct sn sub ab col dd k0 k1 k2 k3 k5 newId)) (hq : Q () ⟨hp, gs, dr, tk, os⟩) :
    wpAny M A (checkBuiltinCall newId ⟨.ref C :: ps, kw⟩) Q E ⟨hp, gs, dr, tk, os⟩ := by
  have inB : (Value.ref C :: bm).contains (.type B) = true := by
    rw [List.contains_cons, hT, F.hasB]; exact Bool.or_true _
  have st := F.noStar
  simp only [checkBuiltinCall, F.newKind, F.newSplit, F.newRow]
  repeat (first
    | refine wpAny_loadPart_at hC ?_
    | (refine wpAny_isSubtype_exc hC ?_; rw [inB])
    | refine wpAny_staticBase_exc hC ?_
    | refine wpAny_madeBy_exc hC ?_
    | simp only [bne_self_eq_false, Bool.false_eq_true, if_false]
    | wp_step)
  exact hq
/-- type.__call__ is asked with keywords -/
theorem ck_type {ps : List Value} {kw : List (Str × Value)} {Q : Unit → Shared → Prop}
    (hC : hp.get? C = some (excClassObj nm qn C N bs bm hdct sn sub ab col dd k0 k1 k2 k3 k5 newId)) (hq : Q () ⟨hp, gs, dr, tk, os⟩) :
    wpAny M A (checkBuiltinCall "type.__call__" ⟨.ref C :: ps, kw⟩) Q E ⟨hp, gs, dr, tk, os⟩ := by
  have z3 := tc_sub
  have tyC : (⟨hp, gs, dr, tk, os⟩ : Shared).TypeIs (.ref C) "type" := ⟨_, hC, rfl⟩
  simp only [checkBuiltinCall, tc_kind, tc_split]
  repeat (any_goals (first
    | assumption
    | with_reducible refine wpAny_loadPart_at hC ?_
    | with_reducible refine wpAny_onRaise ?_
    | with_reducible refine wpAny_map ?_
    | wp_step))
/-- BaseException.__new__ run with keywords -/
theorem run_new (F : ExcBaseFacts B newId initId bmB) (hT : ∀ X : String, bm.contains (.type X) = bmB.contains (.type X)) {ps : List Value} {kw : List (Str × Value)}
    (hC : hp.get? C = some (excClassObj nm qn C N bs bm hdct sn sub ab col dd k0 k1 k2 k3 k5 newId)) (hps : ps.length ≤ sizeLine)
    (hq : R (.ok (.ret (.ref (hp.objs.size + 1)))) ⟨(hp.push (kdv_tup ps)).push (excO C hp.objs.size), gs, dr, tk, os⟩) :
    codeAny (model prog w) A (.builtin newId ⟨.ref C :: ps, kw⟩) R ⟨hp, gs, dr, tk, os⟩ := by
  have en := F.ends
  have inB : (Value.ref C :: bm).contains (.type B) = true := by
    rw [List.contains_cons, hT, F.hasB]; exact Bool.or_true _
  have inA : (Value.ref C :: bm).contains (.type "AttributeError") = false := by
    rw [List.contains_cons, hT, F.noAttr]; rfl
  have inN : (Value.ref C :: bm).contains (.type "NameError") = false := by
    rw [List.contains_cons, hT, F.noName]; rfl
  refine codeAny_builtinAt F.entry ?_
  unfold Builtin.«BaseException.__new__»
  refine PySem.wpAt_bind ?_
  show PySem.wpAt _ _ _ (stack >>= _) _ _ _
  refine PySem.wpAt_bind (PySem.wpAt_stack fun x y => PySem.wpAt_of_wpAny ?_)
  wp_walk
  refine PySem.wpAt_of_wpAny ?_
  rw [F.owner]
  repeat (first
    | with_reducible refine wpAny_madeHere_exc F.canon hC ?_
    | with_reducible refine wpAny_loadPart_at hC ?_
    | (with_reducible refine wpAny_isSubtype_exc hC ?_; first | rw [inB] | rw [inA] | rw [inN])
    | wp_step)
  show R _ _
  rw [Heap.size_push]
  exact hq
/-- type.__call__ with keywords: the new exception, then the own __init__ with the same -/
theorem run_type (F : ExcBaseFacts B newId initId bmB) (hT : ∀ X : String, bm.contains (.type X) = bmB.contains (.type X)) {ps : List Value} {kw : List (Str × Value)} {fI : Addr} {Q : Fin → Shared → Prop}
    (hC : hp.get? C = some (excClassObj nm qn C N bs bm hdct sn sub ab col dd k0 k1 k2 k3 k5 newId))
    (hi : Looks (model prog w) hp (typeLookup (.ref C) "__init__") (some (.ref fI))) (hb : ∀ me, Looks (model prog w) hp (bindSpecial (.ref fI) me) (.ref fI, [me])) (hps : ps.length ≤ sizeLine)
    (hq : codeAny (model prog w) A (.call (.ref fI) ⟨.ref (hp.objs.size + 1) :: ps, kw⟩)
      (fun r s' => match r with | .ok (.ret v) => v = .none ∧ Q (.done (.ret (.ref (hp.objs.size + 1)))) s' | .ok _ => False | .error e => E e s')
      ⟨(hp.push (kdv_tup ps)).push (excO C hp.objs.size), gs, dr, tk, os⟩) :
    wpAny (model prog w) A (Builtin.«type.__call__» ⟨.ref C :: ps, kw⟩) Q E ⟨hp, gs, dr, tk, os⟩ := by
  repeat (first
    | with_reducible refine wpAny_loadPart_at hC ?_
    | with_reducible refine wpAny_madeBy_exc hC ?_
    | wp_step)
  refine codeAny_call_builtin_code (Code.quiet_builtin _ F.quiet) (ck_new F hT hC ?_)
  refine run_new F hT hC hps ?_
  show wpAny _ _ _ _ _ _
  have up : ∀ b o, hp.get? b = some o → ((hp.push (kdv_tup ps)).push (excO C hp.objs.size)).get? b = some o := fun b o q =>
    Heap.get?_push_of_some _ (Heap.get?_push_of_some _ q)
  have hC2 := up _ _ hC
  have me : ((hp.push (kdv_tup ps)).push (excO C hp.objs.size)).get? (hp.objs.size + 1) = some (excO C hp.objs.size) := by heap_get
  have inC : (Value.ref C :: bm).contains (.ref C) = true := by simp
  have i2 := hi.keeps up
  have b2 := (hb (.ref (hp.objs.size + 1))).keeps up
  unfold isInstance
  repeat (first
    | with_reducible refine wpAny_loadPart_at me ?_
    | (with_reducible refine wpAny_isSubtype_exc hC2 ?_; rw [inC])
    | wp_step)
  show wpAny _ _ (typeLookup (.ref C) _) _ _ _
  refine i2.at ?_
  refine wpAny_holding (wpAny_bind (b2.at ?_))
  refine wpAny_bind (wpAny_call (codeAny_mono hq fun r s' z => ?_))
  rcases r with e | (v | _ | _ | _) <;> first | exact z | exact z.elim | skip
  obtain ⟨rfl, z⟩ := z
  first
    | exact wpAny_pure (wpAny_pure z)
    | (wp_walk; exact z)
/-- C(.., k = v) -/
theorem run_cls (F : ExcBaseFacts B newId initId bmB) (hT : ∀ X : String, bm.contains (.type X) = bmB.contains (.type X)) {ps : List Value} {kw : List (Str × Value)} {fI : Addr}
    (hC : hp.get? C = some (excClassObj nm qn C N bs bm hdct sn sub ab col dd k0 k1 k2 k3 k5 newId))
    (hi : Looks (model prog w) hp (typeLookup (.ref C) "__init__") (some (.ref fI))) (hb : ∀ me, Looks (model prog w) hp (bindSpecial (.ref fI) me) (.ref fI, [me])) (hps : ps.length ≤ sizeLine)
    (hq : codeAny (model prog w) (A.under (.builtin "type.__call__" ⟨.ref C :: ps, kw⟩)) (.call (.ref fI) ⟨.ref (hp.objs.size + 1) :: ps, kw⟩) (InitBack (hp.objs.size + 1) R)
      ⟨(hp.push (kdv_tup ps)).push (excO C hp.objs.size), gs, dr, tk, os⟩) :
    codeAny (model prog w) A (.call (.ref C) ⟨ps, kw⟩) R ⟨hp, gs, dr, tk, os⟩ := by
  have z1 := tc_lookup
  have z2 := tc_bind (.ref C)
  have tyC : (⟨hp, gs, dr, tk, os⟩ : Shared).TypeIs (.ref C) "type" := ⟨_, hC, rfl⟩
  refine codeAny_of_tree ?_
  show wpAny _ _ (callAny (.ref C) _) _ _ _
  repeat (any_goals (first
    | assumption
    | with_reducible refine wpAny_loadPart_at hC ?_
    | wp_step))
  refine ⟨rfl, ?_⟩
  refine codeAny_call_builtin_at (Code.quiet_builtin _ (by decide +kernel)) entry_typeCall (ck_type hC (run_type F hT hC hi hb hps ?_))
  refine codeAny_mono hq fun r s' z => ?_
  rcases r with e | (v | _ | _ | _) <;> exact z
end
end Vx
namespace L2.Vx
open PySem PySem.Spec PyProof.Rows
/-! ### the layer: an exception as a value -/
/-- what the written part says of a class of errors, further: what isinstance and a field's look ask -/
structure ErC (K : PySem.W.Frag) (C : Addr) : Prop where
  ox : OexC K C
  ga : PySem.W.findIn K (.ref C) "__getattribute__" = some (some (.builtin "BaseException.__getattribute__"))
  gg : PySem.W.findIn K (.ref C) "__getattr__" = some none
  cl : PySem.W.findIn K (.ref C) "__class__" = some (some (.builtin "object.__class__"))
structure Spc (K : PySem.W.Frag) : Prop where
  hn : PySem.W.specialIn K (.builtin "object.__class__") "__get__" = some (some (.builtin "getset_descriptor.__get__"))
  ht : PySem.W.takesIn K (.builtin "object.__class__") = some true
section
variable {X : Cx} {pins : List (Addr × Obj)} {σ : St} {H : Hp} {s : Shared} {C fI : Addr} {k : Nat} {fd : FuncData} {ps ks : List Str} {sp : Sp} {x : Str} {p pos apos : Pos} {e o : Expr} {es : List Expr} {kws : List Keyword} {te : TE} {ta tk : TA}
abbrev NoX : XK := fun _ _ _ => False
/-- the making runs: __init__ finds the new exception at a -/
theorem mkv_run {CX : CXT} {us ar : List Value} {vs : List V} {Q : VK} (T : OexC X.K C) (iC : PySem.W.findIn X.K (.ref C) "__init__" = some (some (.ref fI))) (tI : PySem.W.typeIn X.K (.ref fI) = some (.type "function"))
    (F1 : FnOk X.prog X.w X.K X.mg X.base CX k fI fd ps sp) (hr : Room (k + 1) X.A) (hx : Passes CX X NoX) (I : Inv X pins σ H s) (hl : us.length ≤ sizeLine) (kw : List (Str × Value))
    (hb : ∀ (a : Addr) (s' : Shared), X.K.In s'.heap → BindsTo s' fd ⟨Value.ref a :: us, kw⟩ (ps.zip (.ref a :: ar))) (r : Vals vs ar)
    (h : ∀ a, H a = none → sp (.ref a :: vs) (upd H a (exo a C none)) (fun v H2 => v = .non ∧ Q (.ref a) H2) NoX) :
    wpAny (model X.prog X.w) X.A (call (.ref C) us kw) (EP X pins σ Q) X.xe s := by
  obtain ⟨nm, q, N, bs, bm, sn, sub, ab, col, dd, k0, k1, k2, k3, k5, hC, hbm⟩ := T.cls
  obtain ⟨hp, gs, dr, tk, os⟩ := s
  have na : H (hp.objs.size + 1) = none := I.hok.fresh (Nat.le_succ _)
  have w1 := h _ na
  have up : ∀ b o, hp.get? b = some o → ((hp.push (PySem.W.kdv_tup us)).push (PySem.HandSPX.excO C hp.objs.size)).get? b = some o := fun b o z =>
    Heap.get?_push_of_some _ (Heap.get?_push_of_some _ z)
  have me : ((hp.push (PySem.W.kdv_tup us)).push (PySem.HandSPX.excO C hp.objs.size)).get? (hp.objs.size + 1) = some (PySem.HandSPX.excO C hp.objs.size) := by heap_get
  have J : Inv X pins σ (upd H (hp.objs.size + 1) (exo (hp.objs.size + 1) C none)) ⟨(hp.push (PySem.W.kdv_tup us)).push (PySem.HandSPX.excO C hp.objs.size), gs, dr, tk, os⟩ :=
    Inv.laid (t' := tk) I up (Nat.le_succ _) (exo_ok me)
  refine wpAny_call (_root_.Vx.run_cls F.excBase_ValueError (fun Y => PySem.HandSPX.refsVE_contains Y bm hbm) (I.kIn _ _ hC) (PySem.W.looks_findIn I.kIn iC) (fun self => PySem.W.bind_fn I.kIn self tI) hl ?_)
  have r2 : Vals (V.ref (hp.objs.size + 1) :: vs) (Value.ref (hp.objs.size + 1) :: ar) := .cons rfl r
  refine codeAny_mono (F1.run _ X.stack _ _ ⟨Value.ref (hp.objs.size + 1) :: us, kw⟩ (.ref (hp.objs.size + 1) :: ar) _ _ NoX (hr.make C us kw) (J.env0.make C us kw) (hb _ _ J.kIn) r2 w1) fun res s' z => ?_
  cases res with
  | error er => exact hx pins σ _ _ er s' J z
  | ok fl =>
    cases fl with
    | ret u =>
      obtain ⟨v, H3, J3, rv, ev, q3⟩ := J.after z
      subst ev
      exact ⟨rv, ⟨V.ref (hp.objs.size + 1), H3, J3, rfl, q3⟩⟩
    | next => exact False.elim z
    | brk => exact False.elim z
    | cont => exact False.elim z
/-- C(e) as a value -/
def tMkV (C : Addr) (sp : Sp) (ta : TA) : TE := fun σ H Q => ta σ H fun vs H1 => vs.length ≤ 1000 ∧ ∀ a, H1 a = none → sp (.ref a :: vs) (upd H1 a (exo a C none)) (fun v H2 => v = .non ∧ Q (.ref a) H2) NoX
theorem pe_mkv {CX : CXT} (T : OexC X.K C) (iC : PySem.W.findIn X.K (.ref C) "__init__" = some (some (.ref fI))) (tI : PySem.W.typeIn X.K (.ref fI) = some (.type "function"))
    (F1 : FnOk X.prog X.w X.K X.mg X.base CX k fI fd ps sp) (hr : Room (k + 1) X.A) (hb : Binds X.K fd ps []) (hx : Passes CX X NoX) (hg : Gl X x) (hm : X.mg x = some (.ref C)) (ha : PA X (e :: es) ta)
    (hdb : (x == ("__debug__" : Str)) = false := by decide) (he : starEach (e :: es) X.env = (false, eval e X.env) :: starEach es X.env := by rfl) (hpl : (backTo pos (starEach es X.env)).any (·.1) = false := by rfl) :
    PE X (.Call (.Name x p) (e :: es) [] pos) (tMkV C sp ta) := by
  refine ⟨fun pins s σ H Q I h => ?_⟩
  refine wpAny_Call_Name_kw (ld_glob I hg hm ?_ hdb)
  refine PySem.W.callWith_K (h₀ := X.base) I.ok.mod.kin T.kC (thn (ha.run pos pins s σ H _ I h) fun us s1 ⟨vs, H1, I1, r1, hz, q1⟩ => ⟨I1.kIn, ?_⟩) he hpl
  have hl1 : us.length = vs.length := r1.length.symm
  refine mkv_run (us := us) (ar := us) T iC tI F1 hr hx I1 (by rw [hl1, sizeLine_eq]; omega) [] (fun a s' X' => ?_) r1 q1
  have z := F1.len _ _ _ _ (q1 _ (I1.hok.fresh (Nat.le_refl _)))
  have := hb s' (.ref a :: us) X' (by rw [List.append_nil, List.length_cons, hl1]; exact z)
  rw [List.append_nil] at this
  exact this
/-- C(k = e) as a value -/
theorem pe_mkvK {CX : CXT} (T : OexC X.K C) (iC : PySem.W.findIn X.K (.ref C) "__init__" = some (some (.ref fI))) (tI : PySem.W.typeIn X.K (.ref fI) = some (.type "function"))
    (F1 : FnOk X.prog X.w X.K X.mg X.base CX k fI fd ps sp) (hr : Room (k + 1) X.A) (hx : Passes CX X NoX) (hg : Gl X x) (hm : X.mg x = some (.ref C)) (hkw : PK X kws tk)
    (hb : ∀ (s' : Shared) (us ws : List Value), us.length = 1 → ws.length = ks.length → X.K.In s'.heap → BindsTo s' fd ⟨us, ks.zip ws⟩ (ps.zip (us ++ ws))) (hlk : ps.length = ks.length + 1)
    (hall : (backToKw pos (keywordEach kws X.env)).all (·.1.isSome) = true := by rfl) (hks : (backToKw pos (keywordEach kws X.env)).filterMap (·.1) = ks := by rfl) (hdb : (x == ("__debug__" : Str)) = false := by decide)
    (hpl : ((backTo pos (starEach [] X.env)).any (·.1) || (backToKw pos (keywordEach kws X.env)).any (·.1.isNone)) = false := by rfl) :
    PE X (.Call (.Name x p) [] kws pos) (tMkV C sp tk) := by
  refine ⟨fun pins s σ H Q I h => ?_⟩
  refine wpAny_Call_Name_kw (ld_glob I hg hm ?_ hdb)
  refine PySem.W.callWith_KW0 (h₀ := X.base) I.ok.mod.kin T.kC hall ?_ hpl
  refine thn (hkw.run pos pins s σ H _ I h) fun ws s2 ⟨zs, H2, I2, rz, hz, q2⟩ => ⟨I2.kIn, ?_⟩
  rw [hks]
  have z := F1.len _ _ _ _ (q2 _ (I2.hok.fresh (Nat.le_refl _)))
  have hl1 : ws.length = zs.length := rz.length.symm
  refine mkv_run (us := []) (ar := ws) T iC tI F1 hr hx I2 (Nat.zero_le _) (ks.zip ws) (fun a s' X' => ?_) rz q2
  exact hb s' [.ref a] ws rfl (by rw [hl1]; simp only [List.length_cons] at z; omega) X'
/-- e.f, e an exception that is tracked with its dict -/
def tXf (f : Str) (K : PySem.W.Frag) (te : TE) : TE := fun σ H Q => te σ H fun x H1 => ∃ (a C d : Addr) (fs : List (Str × V)) (v : V), x = .ref a ∧ ErC K C ∧ PySem.W.findIn K (.ref C) f = some none ∧ PySem.W.hasDictIn K C = true ∧
  H1 a = some (exo a C (some d)) ∧ H1 d = some (exd d fs) ∧ fs.lookup f = some v ∧ Q v H1
theorem inst_exo {H : Hp} {h : Heap} {P : Program} {w : World} {a C d : Addr} {od : Obj} (ok : HOk P w H h) (ha : H a = some (exo a C (some d))) (hd : h.get? d = some od) : ∃ ox, PySem.W.InstAt h a ox C (some od) := by
  obtain ⟨t1, ho⟩ := exo_at ok ha
  exact ⟨_, ho, rfl, rfl, hd⟩
theorem pe_xf {f : Str} (he : PE X e te) (hb : attributeBase e f X.env (eval e X.env) = eval e X.env := by rfl) : PE X (.Attribute e f pos) (tXf f X.K te) := by
  refine ⟨fun pins s σ H Q I h => ?_⟩
  refine attr_of hb (thn (he.run pins s σ H _ I h) fun u s1 hh => ?_)
  obtain ⟨x, H1, I1, rx, a, C, d, fs, v, ex, T, hno, hdc, ea, ed, lf, q⟩ := hh
  subst ex
  obtain rfl : u = Value.ref a := rx
  obtain ⟨mA, hns, rel⟩ := exd_at I1.hok ed
  obtain ⟨od, ho, hl⟩ := lookIn_ns hns
  obtain ⟨w', hw, rw'⟩ := RelO.some_of (v := v) (o := mA f) (by rw [← lf]; exact rel f)
  obtain ⟨ox, J⟩ := inst_exo I1.hok ea ho
  exact PySem.HandSPX.exc_get I1.kIn J T.ga T.gg T.ox.exC (PySem.W.findObj_own hdc hno rfl (by rw [hl, hw])) (handed_of rw') ⟨v, H1, I1.tok _, rw', q⟩
/-- isinstance(e, c), e an exception that is tracked with its dict, or without one -/
def rXi (K : PySem.W.Frag) : List V → Hp → VK → Prop := fun xs H Q => ∃ (a C : Addr) (d : Option Addr) (c : V) (u : Value) (b : Bool), xs = [.ref a, c] ∧ ClsV c u ∧ ErC K C ∧ PySem.W.mroIn K C (.type "object") = some true ∧ PySem.W.isClsIn K C = true ∧
  H a = some (exo a C d) ∧ (∀ d', d = some d' → ∃ fs, H d' = some (exd d' fs)) ∧ PySem.W.kitOne K (.ref C) u = some b ∧ Q (.bl b) H
theorem call_xi (S : Spc X.K) : CallR X (.builtin "isinstance") (rXi X.K) := by
  intro pins s σ H xs us Q I r h
  obtain ⟨a, C, d, c, u, b, rfl, k, T, hm, hcl, ea, hd, e, q⟩ := h
  obtain ⟨u1, u2, rfl, r1, r2⟩ := vals2 r
  obtain rfl : u1 = Value.ref a := r1
  have e2 := k.eq r2
  subst e2
  have J : ∃ ox od, PySem.W.InstAt s.heap a ox C od := by
    obtain ⟨t1, ho⟩ := exo_at I.hok ea
    cases d with
    | none => exact ⟨_, none, ho, rfl, rfl, trivial⟩
    | some d' =>
      obtain ⟨fs, ed⟩ := hd d' rfl
      obtain ⟨mA, hns, rel⟩ := exd_at I.hok ed
      obtain ⟨od, ho', hl⟩ := lookIn_ns hns
      exact ⟨_, some od, ho, rfl, rfl, ho'⟩
  obtain ⟨ox, od, J⟩ := J
  exact PySem.W.kia_one (PySem.W.kitx_exc hcl T.ga T.gg T.ox.exC T.cl S.hn S.ht hm) I.kIn J e (fun z => nomatch z) fun tk => ⟨.bl b, H, I.tok tk, rfl, q⟩
end
end L2.Vx

/-! Each error of the package, made with any objects: the law's own helpers. -/
namespace L2.E5
open PySem PySem.Spec PyProof.Rows L2.Vx
def top (i : Nat) : Stmt := PySem.Challenge.pw_toldthere_k35_errors_made.main.body.getD i (.Pass ⟨0, 0, 0, 0⟩)
abbrev sDraw : Stmt := top 28
abbrev sStart : Stmt := top 29
/-! ### the stream: a list at a of the script's rest (a list at b) and three numbers -/
structure StO (H : Hp) (a b : Addr) (n : Nat) : Prop where
  ex : ∃ (ns : List Int) (c1 c2 c3 : Int), H a = some (.lst [.ref b, .int c1, .int c2, .int c3]) ∧ H b = some (.lst (ns.map V.int)) ∧ 0 ≤ c1 ∧ 0 ≤ c2 ∧ c2 ≤ n ∧ 0 ≤ c3 ∧ c3 < 2147483647
/-- all that was tracked, but for the addresses of S, is as it was -/
def Kp (S : Addr → Prop) (H H' : Hp) : Prop := ∀ c o, H c = some o → ¬ S c → H' c = some o
theorem Kp.refl {S : Addr → Prop} (H : Hp) : Kp S H H := fun _ _ h _ => h
theorem Kp.trans {S : Addr → Prop} {H H1 H2 : Hp} (p : Kp S H H1) (q : Kp S H1 H2) : Kp S H H2 := fun c o h n => q c o (p c o h n) n
theorem Kp.of {S : Addr → Prop} {H H' : Hp} (e : Same H H') : Kp S H H' := fun c o h _ => e c o h
abbrev two (a b : Addr) : Addr → Prop := fun c => c = a ∨ c = b
theorem StO.kp {H H' : Hp} {a b : Addr} {n : Nat} (s : StO H a b n) (e : Same H H') : StO H' a b n := by
  obtain ⟨ns, c1, c2, c3, h1, h2, h⟩ := s.ex
  exact ⟨ns, c1, c2, c3, e _ _ h1, e _ _ h2, h⟩
theorem StO.le {H : Hp} {a b : Addr} {n m : Nat} (s : StO H a b n) (h : n ≤ m) : StO H a b m := by
  obtain ⟨ns, c1, c2, c3, h1, h2, h3, h4, h5, h6⟩ := s.ex
  exact ⟨ns, c1, c2, c3, h1, h2, h3, h4, by omega, h6⟩
/-- what is free behind was free ahead -/
theorem StO.free {H H' : Hp} {a b p : Addr} {m : Nat} (s : StO H' a b m) (k : Kp (two a b) H H') (h : H' p = none) : H p = none := by
  obtain ⟨ns, c1, c2, c3, h1, h2, _⟩ := s.ex
  cases e : H p with
  | none => rfl
  | some o =>
    by_cases ha : p = a
    · rw [ha, h1] at h; cases h
    · by_cases hb : p = b
      · rw [hb, h2] at h; cases h
      · rw [k p o e (fun z => z.elim ha hb)] at h; cases h
def spDraw : Sp := fun vs H Q _ => ∃ (a b : Addr) (m : Int) (n : Nat), vs = [.ref a, .int m] ∧ StO H a b n ∧ n ≤ 1000000 ∧ 0 < m ∧ m < 1000000 ∧
  ∀ (d : Int) (H' : Hp), 0 ≤ d → d < m → StO H' a b (n + 1) → Kp (two a b) H H' → Q (.int d) H'
/-- list(script), 0, 0, 0 -/
def spStart (K : PySem.W.Frag) : Sp := fun vs H Q _ => ∃ (p : Addr) (ns : List Int), vs = [.ref p] ∧ SqL K H p (ns.map V.int) ∧
  ∀ (a b : Addr) (H' : Hp), StO H' a b 0 → Same H H' → H a = none → H b = none → Q (.ref a) H'
structure TxA (mg : Str → Option Value) : Prop where
  z_int : mg "int" = none
  z_list : mg "list" = none
section
variable {P : Program} {w : World} {K : PySem.W.Frag} {mg : Str → Option Value} {base : Heap}
theorem scDraw : FnScope ["_law_stream", "_law_many", "_law_digit", "_law_mixed"] ["_law_stream", "_law_many"] (defScope sDraw) := ⟨rfl, rfl, rfl, by decide +kernel, rfl, by decide +kernel, by decide +kernel⟩
theorem dp_ints {H : Hp} : ∀ ns : List Int, DpAll K H (ns.map V.int) (ns.map PyData.int)
  | [] => .nil
  | n :: r => .cons (.int n) (dp_ints r)
theorem fmod_lt {i j : Int} (h : 0 < j) : 0 ≤ i.fmod j ∧ i.fmod j < j := by
  rw [Int.fmod_eq_emod_of_nonneg _ (Int.le_of_lt h)]
  exact ⟨Int.emod_nonneg _ (by omega), Int.emod_lt_of_pos _ h⟩
theorem fdiv_nn {i j : Int} (hi : 0 ≤ i) (h : 0 < j) : 0 ≤ i.fdiv j := by
  rw [Int.fdiv_eq_ediv_of_nonneg _ (Int.le_of_lt h)]
  exact Int.ediv_nonneg hi (Int.le_of_lt h)
theorem ok_draw {f : Addr} {fd : FuncData} (F : Fun K "_law_draw" "_law_draw" sDraw f fd) (T : TxA mg) : FnOk P w K mg base CX0 1 f fd ["_law_stream", "_law_many"] spDraw := by
  refine F.ok scDraw (fun vs H Q E h => ?_) (fun cdv A outer s H vs Q E hr h => ?_)
  · obtain ⟨a, b, m, n, rfl, _⟩ := h
    rfl
  · obtain ⟨a, b, m, n, rfl, hS, hn, hm, hm2, k⟩ := h
    obtain ⟨ns, c1, c2, c3, ha, hb, p1, p2, p2', p3, p3'⟩ := hS.ex
    have hab : a ≠ b := fun z => by
      rw [z, hb] at ha
      cases ns with
      | nil => cases ha
      | cons x r =>
        have := Option.some.inj ha
        injection this with this
        injection this with this _
        cases this
    refine ⟨_, (pss_cons (ps_asg (pe_op op_add (pe_ix ix_list (pv 0) pe_int (fun _ _ => rfl)) pe_int) (pg_sub (pv 0) pe_int set_list)) (C8.pss_cut (ps_if (PW.pt (pw_and (pt_cmpR op_eq (pe_ix ix_list (pv 0) pe_int (fun _ _ => rfl)) pe_int (nomark _)) (pw_and1 (pt_cmpR (op_neD hr.units) (pe_ix ix_list (pv 0) pe_int (fun _ _ => rfl)) (pe_lst pa_nil) (nomark _))))) (pss_cons (ps_asg (pe_bm PySem.F.plainAttrs_list PySem.F.slot_list_pop PySem.F.type_list_pop mt_popAt (pe_ix ix_list (pv 0) pe_int (fun _ _ => rfl)) (pa_cons pe_int pa_nil)) (pg_sub (pv 0) pe_int set_list)) (pss_one (ps_if (pt_cmpR op_lt (pe_ix ix_list (pv 0) pe_int (fun _ _ => rfl)) (pe_op op_pow pe_int pe_int) (nomark _)) (pss_cons (ps_asg (pe_op op_modN (pe_callTy call_int1 (by rfl) T.z_int (by decide +kernel) (pa_cons (pe_op op_add (pe_op op_add (pe_op op_mul (pe_ix ix_list (pv 0) pe_int (fun _ _ => rfl)) pe_int) (pe_ix ix_list (pv 0) pe_int (fun _ _ => rfl))) pe_int) pa_nil)) pe_int) (pg_sub (pv 0) pe_int set_list)) (pss_one (ps_asg pe_int (pg_sub (pv 0) pe_int set_list)))) pss_nil))) pss_nil) (pss_cons (ps_if (pt_cmpR op_gt (pe_ix ix_list (pv 0) pe_int (fun _ _ => rfl)) pe_int (nomark _)) (pss_cons (ps_set (i := 2) scDraw.nd rfl (Or.inl rfl) (pe_op op_modN (pe_callTy call_int1 (by rfl) T.z_int (by decide +kernel) (pa_cons (pe_ix ix_list (pv 0) pe_int (fun _ _ => rfl)) pa_nil)) (pv 1))) (pss_cons (ps_asg (pe_op op_fdivN (pe_ix ix_list (pv 0) pe_int (fun _ _ => rfl)) (pv 1)) (pg_sub (pv 0) pe_int set_list)) (pss_one (ps_ret (pv 2))))) pss_nil) (pss_cons (ps_set (i := 3) scDraw.nd rfl (Or.inl rfl) (pe_op op_modN (pe_op op_pow (pe_op op_add (pe_op op_add (pe_ix ix_list (pv 0) pe_int (fun _ _ => rfl)) (pe_op op_mul pe_int (pe_ix ix_list (pv 0) pe_int (fun _ _ => rfl)))) pe_int) pe_int) pe_int)) (pss_one (ps_ret (pe_op op_modN (pe_op op_modN (pe_op op_pow (pe_op op_add (pe_op op_add (pe_op op_mul (pv 3) pe_int) (pe_op op_mul (pe_op op_mul pe_int (pe_ix ix_list (pv 0) pe_int (fun _ _ => rfl))) (pe_ix ix_list (pv 0) pe_int (fun _ _ => rfl)))) pe_int) pe_int) pe_int) (pv 1)))))))), ?_⟩
    -- stream[2] = stream[2] + 1
    refine ⟨_, rfl, a, _, 2, _, rfl, rfl, SqL.of ha, rfl, _, _, rfl, rfl, _, rfl, a, _, 2, 2, rfl, rfl, ha, rfl, ?_⟩
    generalize e1 : upd H a _ = H1
    have h1a : H1 a = some (.lst [.ref b, .int c1, .int (c2 + 1), .int c3]) := by rw [← e1]; exact upd_same
    have h1b : H1 b = some (.lst (ns.map V.int)) := by rw [← e1, upd_ne (Ne.symm hab)]; exact hb
    have k1 : Kp (two a b) H H1 := fun c o h z => by rw [← e1, upd_ne (fun q => z (.inl q))]; exact h
    refine ⟨fun σ' H' => σ' = [some (.ref a), some (.int m), none, none] ∧ StO H' a b (n + 1) ∧ Kp (two a b) H H', ?_, ?_⟩
    · -- if stream[1] == 0 and stream[0] != []
      refine ⟨_, rfl, a, _, 1, _, rfl, rfl, SqL.of h1a, rfl, rfl, _, rfl, ?_⟩
      refine ite2 (fun hc => ?_) (fun hc => ?_)
      · have hc0 : c1 = 0 := by simpa using hc
        subst hc0
        refine ⟨_, rfl, a, _, 0, _, rfl, rfl, SqL.of h1a, rfl, (by show 0 ≤ sizeLine; decide), fun p hp => ?_⟩
        have k2 : ∀ {c o}, H1 c = some o → upd H1 p (.lst []) c = some o := fun {c o} z => by rw [upd_ne (ne_of_none z hp)]; exact z
        refine ⟨_, _, .lst (SqL.of (k2 h1b)) (dp_ints ns), .lst (SqL.of upd_same) .nil, PySem.W.ke_shaped_ints ns, (by decide), _, rfl, ?_⟩
        generalize e2 : upd H1 p (.lst []) = H2 at k2
        have h2a := k2 h1a
        have h2b := k2 h1b
        have k12 : Kp (two a b) H H2 := k1.trans (fun c o h _ => k2 h)
        cases ns with
        | nil =>
          refine iteF ?_
          exact ⟨rfl, ⟨[], 0, c2 + 1, c3, h2a, h2b, by omega, by omega, by omega, p3, p3'⟩, k12⟩
        | cons x r =>
          refine iteT ?_
          -- stream[1] = stream[0].pop(0)
          refine ⟨_, rfl, a, _, 0, _, rfl, rfl, SqL.of h2a, rfl, .inl ⟨rfl, _, SqL.of h2b⟩, b, _, 0, 0, _, rfl, rfl, h2b, by decide, by decide, (by rw [List.map_cons, List.length_cons]; simp [seqIndex?]; try omega), rfl, ?_⟩
          generalize e3 : upd H2 b _ = H3
          have h3a : H3 a = some (.lst [.ref b, .int 0, .int (c2 + 1), .int c3]) := by rw [← e3, upd_ne hab]; exact h2a
          have h3b : H3 b = some (.lst (r.map V.int)) := by rw [← e3]; exact upd_same
          refine ⟨_, rfl, a, _, 1, 1, rfl, rfl, h3a, rfl, ?_⟩
          generalize e4 : upd H3 a _ = H4
          have h4a : H4 a = some (.lst [.ref b, .int x, .int (c2 + 1), .int c3]) := by rw [← e4]; exact upd_same
          have h4b : H4 b = some (.lst (r.map V.int)) := by rw [← e4, upd_ne (Ne.symm hab)]; exact h3b
          have k14 : Kp (two a b) H H4 := k12.trans fun c o h z => by
            rw [← e4, upd_ne (fun q => z (.inl q)), ← e3, upd_ne (fun q => z (.inr q))]; exact h
          -- if stream[1] < 10 ** 18
          refine ⟨_, rfl, a, _, 1, _, rfl, rfl, SqL.of h4a, rfl, _, _, rfl, rfl, ⟨by decide, by decide, by decide⟩, _, _, rfl, rfl, _, rfl, ?_⟩
          refine ite2 (fun hc => ?_) (fun hc => ?_)
          · refine ⟨_, rfl, a, _, 3, _, rfl, rfl, SqL.of h4a, rfl, _, _, rfl, rfl, .inr ⟨by decide, by decide⟩, _, rfl, a, _, 1, _, rfl, rfl, SqL.of h4a, rfl, _, _, rfl, rfl, _, _, rfl, rfl,
              .inl ⟨_, rfl, _, _, rfl, rfl, (by show (2147483647 : Int) ≠ 0; decide), _, rfl, a, _, 3, 3, rfl, rfl, h4a, rfl, ?_⟩⟩
            generalize e5 : upd H4 a _ = H5
            have h5a : H5 a = some (.lst [.ref b, .int x, .int (c2 + 1), .int ((c3 * 31 + x + 7).fmod 2147483647)]) := by rw [← e5]; exact upd_same
            refine ⟨_, rfl, a, _, 1, 1, rfl, rfl, h5a, rfl, ?_⟩
            refine ⟨rfl, ⟨r, 0, c2 + 1, (c3 * 31 + x + 7).fmod 2147483647, upd_same, ?_, by omega, by omega, by omega, (fmod_lt (by decide)).1, (fmod_lt (by decide)).2⟩, k14.trans fun c o h z => ?_⟩
            · rw [upd_ne (Ne.symm hab), ← e5, upd_ne (Ne.symm hab)]; exact h4b
            · rw [upd_ne (fun q => z (.inl q)), ← e5, upd_ne (fun q => z (.inl q))]; exact h
          · have hx : ¬ x < 10 ^ 18 := by simpa using hc
            exact ⟨rfl, ⟨r, x, c2 + 1, c3, h4a, h4b, by omega, by omega, by omega, p3, p3'⟩, k14⟩
      · exact ⟨rfl, ⟨ns, c1, c2 + 1, c3, h1a, h1b, p1, by omega, by omega, p3, p3'⟩, k1⟩
    · rintro σ' H' ⟨rfl, S', kk⟩
      obtain ⟨ns', d1, d2, d3, ga, gb, q1, q2, q2', q3, q3'⟩ := S'.ex
      -- if stream[1] > 0
      refine ⟨_, rfl, a, _, 1, _, rfl, rfl, SqL.of ga, rfl, _, _, rfl, rfl, _, rfl, ?_⟩
      refine ite2 (fun hc => ?_) (fun hc => ?_)
      · have hd1 : 0 < d1 := by simpa using hc
        refine ⟨_, rfl, a, _, 1, _, rfl, rfl, SqL.of ga, rfl, .inl ⟨_, rfl, _, rfl, _, _, rfl, rfl, by omega, ?_⟩⟩
        refine ⟨_, rfl, a, _, 1, _, rfl, rfl, SqL.of ga, rfl, _, rfl, _, _, rfl, rfl, ⟨by omega, by omega⟩, _, rfl, a, _, 1, 1, rfl, rfl, ga, rfl, ?_⟩
        refine ⟨_, rfl, ?_⟩
        refine k (d1.fmod m) _ (fmod_lt hm).1 (fmod_lt hm).2 ⟨ns', d1.fdiv m, d2, d3, upd_same, ?_, fdiv_nn q1 hm, q2, q2', q3, q3'⟩ (kk.trans fun c o h z => ?_)
        · rw [upd_ne (Ne.symm hab)]; exact gb
        · rw [upd_ne (fun q => z (.inl q))]; exact h
      · -- the mixed draw
        have b2 : d2 ≤ 1000001 := by omega
        refine ⟨_, rfl, a, _, 3, _, rfl, rfl, SqL.of ga, rfl, _, rfl, a, _, 2, _, rfl, rfl, SqL.of ga, rfl, _, _, rfl, rfl, .inl ⟨by decide, by decide⟩, _, _, rfl, rfl, _, _, rfl, rfl, _, _, rfl, rfl, ⟨by decide, by decide, by omega⟩, _, _, rfl, rfl, (by show (2147483629 : Int) ≠ 0; decide), ?_⟩
        have w1 := fmod_lt (i := (d3 + 104729 * d2 + 17) ^ Int.toNat 5) (j := 2147483629) (by decide)
        generalize e1 : ((d3 + 104729 * d2 + 17) ^ Int.toNat 5).fmod 2147483629 = x1 at w1
        have m0 : 0 ≤ d2 * d2 := Int.mul_nonneg q2 q2
        have m1 : d2 * d2 ≤ 1000001 * 1000001 := Int.mul_le_mul b2 b2 q2 (by decide)
        have m2 : 40503 * d2 * d2 = 40503 * (d2 * d2) := Int.mul_assoc _ _ _
        generalize d2 * d2 = y at m0 m1 m2
        refine ⟨_, rfl, _, _, rfl, rfl, .inl ⟨by omega, by omega⟩, _, rfl, a, _, 2, _, rfl, rfl, SqL.of ga, rfl, _, _, rfl, rfl, .inl ⟨by decide, by decide⟩, _, rfl, a, _, 2, _, rfl, rfl, SqL.of ga, rfl, _, _, rfl, rfl, .inl ⟨by omega, by omega⟩, _, _, rfl, rfl, _, _, rfl, rfl,
          _, _, rfl, rfl, ⟨by decide, by decide, by rw [m2]; omega⟩, _, _, rfl, rfl, (by show (1000000007 : Int) ≠ 0; decide), _, rfl, _, _, rfl, rfl, (by omega), ?_⟩
        exact k _ _ (fmod_lt hm).1 (fmod_lt hm).2 S' kk
theorem scStart : FnScope ["_law_script"] ["_law_script"] (defScope sStart) := ⟨rfl, rfl, rfl, by decide +kernel, rfl, by decide +kernel, by decide +kernel⟩
theorem ok_start {f : Addr} {fd : FuncData} (F : Fun K "_law_start" "_law_start" sStart f fd) (T : TxA mg) : FnOk P w K mg base CX0 1 f fd ["_law_script"] (spStart K) := by
  refine F.ok scStart (fun vs H Q E h => ?_) (fun cdv A outer s H vs Q E hr h => ?_)
  · obtain ⟨p, ns, rfl, _⟩ := h
    rfl
  · obtain ⟨p, ns, rfl, hp, k⟩ := h
    refine ⟨_, (pss_one (ps_ret (pe_lst (pa_cons (pe_callTy call_list_of (by rfl) T.z_list (by decide +kernel) (pa_cons (pv 0) pa_nil)) (pa_cons pe_int (pa_cons pe_int (pa_cons pe_int pa_nil))))))), ?_⟩
    refine ⟨_, rfl, p, _, rfl, .inl hp, fun b nb => ?_⟩
    refine ⟨by show 4 ≤ sizeLine; decide, fun a na => ?_⟩
    have hab : a ≠ b := fun z => by rw [z, upd_same] at na; cases na
    have na' : H a = none := by rw [upd_ne hab] at na; exact na
    exact k a b _ ⟨ns, 0, 0, 0, upd_same, by rw [upd_ne (Ne.symm hab)]; exact upd_same, by decide, by decide, by decide, by decide, by decide⟩
      (fun c o h => by rw [upd_ne (ne_of_none h na'), upd_ne (ne_of_none h nb)]; exact h) na' nb
end
end L2.E5

namespace L2.E5
open PySem PySem.Spec PyProof.Rows L2.Vx
abbrev sThing : Stmt := top 31
/-! ### what is drawn: leaves, lists and tuples (which the law takes for the same), dicts with the one key 'a' -/
inductive D where
  | leaf (v : V)
  | seq (xs : List D)
  | dct (x : D)
def leafy : V → Bool
  | .non => true
  | .bl _ => true
  | .int _ => true
  | .str _ => true
  | _ => false
def isSeq : D → Bool
  | .seq _ => true
  | _ => false
abbrev keyA : Key := Sum.inr ("a" : Str)
/-- v shows d in H, less than n deep, by no object of S; t: lists are none -/
def Rep (t : Bool) (H : Hp) : Nat → (Addr → Prop) → V → D → Prop
  | 0 => fun _ _ _ => False
  | n + 1 => fun S v d => match d with
    | .leaf x => v = x ∧ leafy x = true
    | .seq ds => ∃ a us, v = .ref a ∧ ¬ S a ∧ ((t = false ∧ H a = some (.lst us)) ∨ H a = some (.tup us)) ∧ us.length ≤ 2 ∧ Paired (Rep t H n S) us ds
    | .dct x => ∃ a u, v = .ref a ∧ ¬ S a ∧ H a = some (.dK [(keyA, u)]) ∧ isSeq x = true ∧ Rep t H n (fun c => S c ∨ c = a) u x
theorem Rep.kp {t : Bool} {H H' : Hp} : ∀ {n : Nat} {S : Addr → Prop} {v : V} {d : D}, Kp S H H' → Rep t H n S v d → Rep t H' n S v d
  | 0, _, _, _, _, h => h
  | n + 1, S, v, .leaf x, _, h => h
  | n + 1, S, v, .seq ds, k, ⟨a, us, e, ns, ha, hl, hp⟩ => ⟨a, us, e, ns, ha.imp (fun z => ⟨z.1, k _ _ z.2 ns⟩) (fun z => k _ _ z ns), hl, Paired.mapP hp fun _ _ z => Rep.kp k z⟩
  | n + 1, S, v, .dct x, k, ⟨a, u, e, ns, ha, hq, hp⟩ => ⟨a, u, e, ns, k _ _ ha ns, hq, Rep.kp (fun c o h z => k c o h fun q => z (.inl q)) hp⟩
theorem Rep.sub {t : Bool} {H : Hp} : ∀ {n : Nat} {S S' : Addr → Prop} {v : V} {d : D}, (∀ c, S' c → S c) → Rep t H n S v d → Rep t H n S' v d
  | 0, _, _, _, _, _, h => h
  | n + 1, S, S', v, .leaf x, _, h => h
  | n + 1, S, S', v, .seq ds, k, ⟨a, us, e, ns, ha, hl, hp⟩ => ⟨a, us, e, fun z => ns (k _ z), ha, hl, Paired.mapP hp fun _ _ z => Rep.sub k z⟩
  | n + 1, S, S', v, .dct x, k, ⟨a, u, e, ns, ha, hq, hp⟩ => ⟨a, u, e, fun z => ns (k _ z), ha, hq, Rep.sub (fun c z => z.imp (k c) id) hp⟩
theorem Rep.up {t : Bool} {H : Hp} : ∀ {n : Nat} {S : Addr → Prop} {v : V} {d : D}, Rep t H n S v d → Rep t H (n + 1) S v d
  | 0, _, _, _, h => h.elim
  | n + 1, S, v, .leaf x, h => h
  | n + 1, S, v, .seq ds, ⟨a, us, e, ns, ha, hl, hp⟩ => ⟨a, us, e, ns, ha, hl, Paired.mapP hp fun _ _ z => Rep.up z⟩
  | n + 1, S, v, .dct x, ⟨a, u, e, ns, ha, hq, hp⟩ => ⟨a, u, e, ns, ha, hq, Rep.up hp⟩
/-- an untracked address is none of them -/
theorem Rep.add {t : Bool} {H : Hp} {p : Addr} (hn : H p = none) : ∀ {n : Nat} {S : Addr → Prop} {v : V} {d : D}, Rep t H n S v d → Rep t H n (fun c => S c ∨ c = p) v d
  | 0, _, _, _, h => h
  | n + 1, S, v, .leaf x, h => h
  | n + 1, S, v, .seq ds, ⟨a, us, e, ns, ha, hl, hp⟩ => by
    have hap : a ≠ p := fun q => by
      rw [q, hn] at ha
      rcases ha with ⟨_, z⟩ | z <;> cases z
    exact ⟨a, us, e, fun z => Or.elim z ns hap, ha, hl, Paired.mapP hp fun _ _ z => Rep.add hn z⟩
  | n + 1, S, v, .dct x, ⟨a, u, e, ns, ha, hq, hp⟩ => by
    have hap : a ≠ p := fun q => by
      rw [q, hn] at ha
      cases ha
    refine ⟨a, u, e, fun z => Or.elim z ns hap, ha, hq, (Rep.add hn hp).sub fun c z => ?_⟩
    rcases z with (z | z) | z
    · exact .inl (.inl z)
    · exact .inr z
    · exact .inl (.inr z)
theorem Paired.push {α β : Type} {R : α → β → Prop} {x : α} {y : β} : ∀ {xs : List α} {ys : List β}, Paired R xs ys → R x y → Paired R (xs ++ [x]) (ys ++ [y])
  | _, _, .nil, h => .cons h .nil
  | _, _, .cons a t, h => .cons a (Paired.push t h)
/-- tracked in H -/
abbrev Trk (H : Hp) : Addr → Prop := fun c => H c ≠ none
def cst : Nat → Nat
  | 0 => 1
  | n + 1 => 2 + 2 * cst n
def spThing (dp : Nat) : Sp := fun vs H Q _ => ∃ (a b : Addr) (n : Nat), vs = [.ref a, .int (dp : Int)] ∧ StO H a b n ∧ n + cst dp ≤ 1000000 ∧
  ∀ (v : V) (d : D) (H' : Hp), Rep false H' (2 * dp + 1) (Trk H) v d → StO H' a b (n + cst dp) → Kp (two a b) H H' → Q v H'
theorem pick6 {d : Int} (h0 : 0 ≤ d) (h : d < 6) : ∃ v, atI [V.int 0, V.bl true, V.non, V.str "", V.int (-(10 ^ Int.toNat 29)), V.str "a b"] d = some v ∧ leafy v = true := by
  have : d = 0 ∨ d = 1 ∨ d = 2 ∨ d = 3 ∨ d = 4 ∨ d = 5 := by omega
  rcases this with rfl | rfl | rfl | rfl | rfl | rfl <;> exact ⟨_, rfl, rfl⟩
structure TxB (K : PySem.W.Frag) (mg : Str → Option Value) (fD fT : Addr) : Prop where
  z_range : mg "range" = none
  z_tuple : mg "tuple" = none
  m_draw : mg "_law_draw" = some (.ref fD)
  k_draw : PySem.W.keepIn K (.ref fD) = true
  m_thing : mg "_law_thing" = some (.ref fT)
  k_thing : PySem.W.keepIn K (.ref fT) = true
abbrev nThing : List Str := ["_law_stream", "_law_deep", "_law_kind", "_law_some", "_law_k"]
section
variable {P : Program} {w : World} {K : PySem.W.Frag} {mg : Str → Option Value} {base : Heap}
theorem scThing : FnScope nThing ["_law_stream", "_law_deep"] (defScope sThing) := ⟨rfl, rfl, rfl, by decide +kernel, rfl, by decide +kernel, by decide +kernel⟩
theorem ok_thing {fD f : Addr} {fdD fd : FuncData} (F : Fun K "_law_thing" "_law_thing" sThing f fd) (T : TxB K mg fD f) (GD : FnOk P w K mg base CX0 1 fD fdD ["_law_stream", "_law_many"] spDraw)
    (bD : Binds K fdD ["_law_stream", "_law_many"] []) (bT : Binds K fd ["_law_stream", "_law_deep"] []) : ∀ dp : Nat, FnOk P w K mg base CX0 (dp + 2) f fd ["_law_stream", "_law_deep"] (spThing dp)
  | 0 => by
    refine F.ok scThing (fun vs H Q E h => ?_) (fun cdv A outer s H vs Q E hr h => ?_)
    · obtain ⟨a, b, n, rfl, _⟩ := h
      rfl
    · obtain ⟨a, b, n, rfl, hS, hn, k⟩ := h
      refine ⟨_, pss_cons (ps_set (i := 2) scThing.nd rfl (Or.inl rfl) (pe_call GD (hr.mono (by omega)) rfl T.m_draw T.k_draw bD .nil pass0 (pa_cons (pv 0) (pa_cons (pe_ifExp (pt_cmpR op_gt (pv 1) pe_int (nomark _)) pe_int pe_int) pa_nil)))) (pss_cons (ps_if (pt_cmpR op_lt (pv 2) pe_int (nomark _)) (pss_one (ps_ret (pe_ix ix_list (pe_lst (pa_cons pe_int (pa_cons pe_bl (pa_cons pe_non (pa_cons pe_str (pa_cons (pe_un un_neg (pe_op op_pow pe_int pe_int)) (pa_cons pe_str pa_nil))))))) (pv 2) (fun _ _ => rfl)))) pss_nil) pss_never), ?_⟩
      refine ⟨_, rfl, _, rfl, _, _, rfl, rfl, _, rfl, ?_⟩
      refine iteF ?_
      refine ⟨a, b, 6, n, rfl, hS, by simp only [cst] at hn; omega, by decide, by decide, fun d H' h0 h1 S' kk => ?_⟩
      refine ⟨_, rfl, _, _, rfl, rfl, _, rfl, ?_⟩
      refine ite2 (fun _ => ?_) (fun z => absurd (decide_eq_true h1) z)
      refine ⟨_, _, rfl, rfl, ⟨by decide, by decide, by decide⟩, _, rfl, (by show 6 ≤ sizeLine; decide), fun p hp => ?_⟩
      obtain ⟨v, ev, lv⟩ := pick6 h0 h1
      refine ⟨_, rfl, p, _, d, v, rfl, rfl, SqL.of upd_same, ev, ?_⟩
      exact k v (.leaf v) _ ⟨rfl, lv⟩ ((S'.kp fun c o z => by rw [upd_ne (ne_of_none z hp)]; exact z)) (kk.trans fun c o z _ => by rw [upd_ne (ne_of_none z hp)]; exact z)
  | dp + 1 => by
    have GT := ok_thing F T GD bD bT dp
    refine F.ok scThing (fun vs H Q E h => ?_) (fun cdv A outer s H vs Q E hr h => ?_)
    · obtain ⟨a, b, n, rfl, _⟩ := h
      rfl
    · obtain ⟨a, b, n, rfl, hS, hn, k⟩ := h
      have ec : cst (dp + 1) = 2 + 2 * cst dp := rfl
      refine ⟨_, pss_cons (ps_set (i := 2) scThing.nd rfl (Or.inl rfl) (pe_call GD (hr.mono (by omega)) rfl T.m_draw T.k_draw bD .nil pass0 (pa_cons (pv 0) (pa_cons (pe_ifExp (pt_cmpR op_gt (pv 1) pe_int (nomark _)) pe_int pe_int) pa_nil)))) (pss_cons (ps_if (pt_cmpR op_lt (pv 2) pe_int (nomark _)) (pss_one (ps_ret (pe_ix ix_list (pe_lst (pa_cons pe_int (pa_cons pe_bl (pa_cons pe_non (pa_cons pe_str (pa_cons (pe_un un_neg (pe_op op_pow pe_int pe_int)) (pa_cons pe_str pa_nil))))))) (pv 2) (fun _ _ => rfl)))) pss_nil) (pss_cons (ps_setLc (i := 3) (own := [("_law_k", 4)]) (g := gName 4) (tt := tYes) rfl scThing.nd rfl rfl (sw_true rfl rfl rfl (by decide +kernel)) (pi_range1 rfl T.z_range (pa_cons (pe_call GD (hr.mono (by omega)) rfl T.m_draw T.k_draw bD .nil pass0 (pa_cons (pv 0) (pa_cons pe_int pa_nil))) pa_nil)) (blkOk_by (N := nThing) (sc := defScope sThing) (by decide +kernel)) (fun _ _ _ _ _ => pg_name (i := 4) scThing.nd rfl (Or.inl rfl)) (fun _ _ _ _ _ => pts_nil) (fun _ _ _ _ _ => pe_call GT (hr.mono (by omega)) rfl T.m_thing T.k_thing bT .nil pass0 (pa_cons (pv 0) (pa_cons (pe_op op_sub (pv 1) pe_int) pa_nil)))) (pss_cons (ps_if (pt_cmpR op_eq (pv 2) pe_int (nomark _)) (pss_one (ps_ret (pe_disp (pps_cons pe_str (pv 3) pps_nil) (by rfl) (by rfl) (fun z => by cases z) (by decide)))) pss_nil) (pss_one (ps_ret (pe_ifExp (pt_cmpR op_eq (pv 2) pe_int (nomark _)) (pv 3) (pe_callTy call_tuple_of (by rfl) T.z_tuple (by decide +kernel) (pa_cons (pv 3) pa_nil)))))))), ?_⟩
      refine ⟨_, rfl, _, rfl, _, _, rfl, rfl, _, rfl, ?_⟩
      rw [show decide ((0 : Int) < ((dp + 1 : Nat) : Int)) = true from decide_eq_true (by omega)]
      refine iteT ?_
      refine ⟨a, b, 9, n, rfl, hS, by omega, by decide, by decide, fun d H1 h0 h1 S1 k1 => ?_⟩
      refine ⟨_, rfl, _, _, rfl, rfl, _, rfl, ?_⟩
      refine ite2 (fun z => ?_) (fun _ => ?_)
      · have h6 : d < 6 := by simpa using z
        refine ⟨_, _, rfl, rfl, ⟨by decide, by decide, by decide⟩, _, rfl, (by show 6 ≤ sizeLine; decide), fun p hp => ?_⟩
        obtain ⟨v, ev, lv⟩ := pick6 h0 h6
        refine ⟨_, rfl, p, _, d, v, rfl, rfl, SqL.of upd_same, ev, ?_⟩
        exact k v (.leaf v) _ ⟨rfl, lv⟩ ((S1.kp fun c o z => by rw [upd_ne (ne_of_none z hp)]; exact z).le (by omega)) (k1.trans fun c o z _ => by rw [upd_ne (ne_of_none z hp)]; exact z)
      · refine ⟨_, rfl, a, b, 3, n + 1, rfl, S1, by omega, by decide, by decide, fun d2 H2 g0 g1 S2 k2 => ⟨d2, rfl, by omega, by omega, fun D nD => ?_⟩⟩
        have k02 : Kp (two a b) H H2 := k1.trans k2
        have hD0 : H D = none := S2.free k02 nD
        have nDS : ¬ two a b D := fun z => by
          obtain ⟨_, _, _, _, y1, y2, _⟩ := S2.ex
          rcases z with z | z
          · rw [z, y1] at nD; cases nD
          · rw [z, y2] at nD; cases nD
        have ab : ∀ c, two a b c → H c ≠ none := fun c z => by
          obtain ⟨_, _, _, _, y1, y2, _⟩ := hS.ex
          rcases z with z | z
          · rw [z, y1]; exact fun q => nomatch q
          · rw [z, y2]; exact fun q => nomatch q
        refine lc_range (lo := 0) (n := d2.toNat) (fun i H3 => ∃ us ds, H3 D = some (.lst us) ∧ us.length = i ∧ Paired (Rep false H3 (2 * dp + 1) (fun c => H c ≠ none ∨ c = D)) us ds ∧ StO H3 a b (n + 2 + i * cst dp) ∧ Kp (two a b) H H3) ?_ ?_ ?_
        · have e : Same H2 (upd H2 D (.lst [])) := fun c o z => by rw [upd_ne (ne_of_none z nD)]; exact z
          exact ⟨[], [], upd_same, rfl, .nil, (S2.kp e).le (by omega), k02.trans (Kp.of e)⟩
        · rintro i H3 hi ⟨us, ds, hD, hl, hp, S3, k3⟩
          refine ⟨rfl, ?_⟩
          unfold tYes
          refine iteT ?_
          have hi2 : i < 2 := by omega
          have hic : i * cst dp + cst dp = (i + 1) * cst dp := (Nat.succ_mul _ _).symm
          have hic2 : (i + 1) * cst dp ≤ 2 * cst dp := Nat.mul_le_mul_right _ hi2
          refine ⟨_, rfl, _, rfl, _, _, rfl, rfl, a, b, n + 2 + i * cst dp, ?_, S3, by omega, fun v d H4 r S4 k4 => ⟨us, k4 _ _ hD nDS, Nat.lt_of_le_of_lt (by omega : us.length ≤ 2) (by decide), us ++ [v], ds ++ [d], upd_same, by rw [List.length_append, hl]; rfl, ?_, ?_, ?_⟩⟩
          · have e : (((dp + 1 : Nat) : Int) - 1) = (dp : Int) := by omega
            show [V.ref a, V.int (((dp + 1 : Nat) : Int) - 1)] = [V.ref a, V.int (dp : Int)]
            rw [e]
          · have kS : Kp (fun c => H c ≠ none ∨ c = D) H3 H4 := fun c o z q => k4 c o z fun q' => q (.inl (ab c q'))
            have kD : Kp (fun c => H c ≠ none ∨ c = D) H4 (upd H4 D (.lst (us ++ [v]))) := fun c o z q => by rw [upd_ne fun q' => q (.inr q')]; exact z
            refine Paired.push (Paired.mapP hp fun _ _ z => z.kp (kS.trans kD)) ((r.sub fun c q => ?_).kp kD)
            rcases q with q | q
            · intro z; exact q (S3.free k3 z)
            · rw [q, Trk, hD]; exact fun z => nomatch z
          · have e : StO (upd H4 D (.lst (us ++ [v]))) a b (n + 2 + i * cst dp + cst dp) := by
              obtain ⟨x1, x2, x3, x4, y1, y2, y⟩ := S4.ex
              exact ⟨x1, x2, x3, x4, by rw [upd_ne fun z => nDS (.inl z.symm)]; exact y1, by rw [upd_ne fun z => nDS (.inr z.symm)]; exact y2, y⟩
            exact e.le (by omega)
          · exact fun c o z q => by
              rw [upd_ne (ne_of_none z hD0)]
              exact (k3.trans k4) c o z q
        · rintro H3 ⟨us, ds, hD, hl, hp, S3, k3⟩
          have hl2 : us.length ≤ 2 := by omega
          have hcc : d2.toNat * cst dp ≤ 2 * cst dp := Nat.mul_le_mul_right _ (by omega)
          have R0 : Rep false H3 (2 * dp + 2) (Trk H) (.ref D) (.seq ds) := ⟨D, us, rfl, fun z => z hD0, .inl ⟨rfl, hD⟩, hl2, Paired.mapP hp fun _ _ z => z.sub fun c q => .inl q⟩
          have S3' : StO H3 a b (n + cst (dp + 1)) := S3.le (by omega)
          refine ⟨_, rfl, rfl, _, rfl, ?_⟩
          refine ite2 (fun _ => ?_) (fun _ => ?_)
          · refine fun p np => ⟨_, rfl, upd_same, [(keyA, .ref D)], rfl, (by show 1 ≤ 15; decide), ?_⟩
            rw [upd_upd]
            have e : Same H3 (upd H3 p (.dK (mergeK [] [(keyA, .ref D)]))) := fun c o z => by rw [upd_ne (ne_of_none z np)]; exact z
            have hp0 : H p = none := S3.free k3 np
            exact k (.ref p) (.dct (.seq ds)) _ ⟨p, .ref D, rfl, fun z => z hp0, upd_same, rfl, (Rep.add np R0).kp (Kp.of e)⟩ (S3'.kp e) (k3.trans (Kp.of e))
          · refine ⟨_, rfl, rfl, _, rfl, ?_⟩
            refine ite2 (fun _ => ?_) (fun _ => ?_)
            · refine ⟨_, rfl, ?_⟩
              exact k (.ref D) (.seq ds) H3 R0.up S3' k3
            · refine ⟨_, rfl, D, us, rfl, .inl ⟨SqL.of hD, fun l nl => ?_⟩⟩
              have e : Same H3 (upd H3 l (.tup us)) := fun c o z => by rw [upd_ne (ne_of_none z nl)]; exact z
              have hl0 : H l = none := S3.free k3 nl
              exact k (.ref l) (.seq ds) _ ⟨l, us, rfl, fun z => z hl0, .inr upd_same, hl2, Paired.mapP hp fun _ _ z => ((z.sub fun c q => .inl q).kp (Kp.of e)).up⟩ (S3'.kp e) (k3.trans (Kp.of e))
end
end L2.E5

namespace L2.E5
open PySem PySem.Spec PyProof.Rows L2.Vx
abbrev sTup : Stmt := top 32
abbrev nTup : List Str := ["_law_thing_here", "_law_key", "_law_one"]
abbrev NoS : Addr → Prop := fun _ => False
theorem Kp.noS {H H' : Hp} (e : Same H H') : Kp NoS H H' := fun c o h _ => e c o h
/-- an address that holds none of what is shown may change -/
theorem Rep.skip {H : Hp} {p : Addr} {o : HO} (h1 : ∀ xs, H p ≠ some (.tup xs)) (h2 : ∀ ks, H p ≠ some (.dK ks)) : ∀ {n : Nat} {S : Addr → Prop} {v : V} {d : D}, Rep true H n S v d → Rep true (upd H p o) n S v d
  | 0, _, _, _, h => h
  | n + 1, S, v, .leaf x, h => h
  | n + 1, S, v, .seq ds, ⟨a, us, e, ns, ha, hl, hp⟩ => by
    rcases ha with ⟨z, _⟩ | ha
    · cases z
    · exact ⟨a, us, e, ns, .inr (by rw [upd_ne fun q => h1 us (by rw [← q]; exact ha)]; exact ha), hl, Paired.mapP hp fun _ _ z => Rep.skip h1 h2 z⟩
  | n + 1, S, v, .dct x, ⟨a, u, e, ns, ha, hq, hp⟩ =>
    ⟨a, u, e, ns, by rw [upd_ne fun q => h2 _ (by rw [← q]; exact ha)]; exact ha, hq, Rep.skip h1 h2 hp⟩
theorem Paired.get {α β : Type} {R : α → β → Prop} : ∀ {xs : List α} {ys : List β} {i : Nat} {x : α}, Paired R xs ys → xs[i]? = some x → ∃ y, ys[i]? = some y ∧ R x y
  | _, _, _, _, .nil, e => by simp at e
  | _, _, 0, _, .cons r _, e => by
    simp at e
    subst e
    exact ⟨_, rfl, r⟩
  | _, _, i + 1, x, .cons _ t, e => by
    obtain ⟨y, h1, h2⟩ := Paired.get (i := i) (x := x) t (by simpa using e)
    exact ⟨y, by simpa using h1, h2⟩
theorem take_snoc {α : Type} : ∀ {l : List α} {i : Nat} {x : α}, l[i]? = some x → l.take (i + 1) = l.take i ++ [x]
  | [], i, x, h => by simp at h
  | a :: l, 0, x, h => by
    have e : a = x := Option.some.inj h
    rw [e]; rfl
  | a :: l, i + 1, x, h => by
    have ih := take_snoc (l := l) (i := i) (x := x) h
    rw [List.take_succ_cons, ih]; rfl
/-! ### kinds -/
def tyN : V → String
  | .non => "NoneType"
  | .bl _ => "bool"
  | .int _ => "int"
  | _ => "str"
section
variable {K : PySem.W.Frag}
theorem tyx_leaf {H : Hp} : ∀ {v : V}, leafy v = true → TyX K H v (.type (tyN v))
  | .non, _ => .base .non
  | .bl b, _ => .base (.bl b)
  | .int i, _ => .base (.int i)
  | .str x, _ => .base (.str x)
theorem kitAny1 {a b : String} {r : Bool} (h : kitB a b = some r) : PySem.W.kitAny K (.type a) [.type b] = some r := by
  unfold PySem.W.kitAny
  rw [kit_ty h]
  cases r <;> rfl
theorem kitAny2 {a b c : String} {r q : Bool} (h : kitB a b = some r) (h2 : kitB a c = some q) : PySem.W.kitAny K (.type a) [.type b, .type c] = some (r || q) := by
  unfold PySem.W.kitAny
  rw [kit_ty h]
  cases r
  · show _ = some q
    exact kitAny1 h2
  · rfl
theorem kitAny3 {a b c d : String} {r q p : Bool} (h : kitB a b = some r) (h2 : kitB a c = some q) (h3 : kitB a d = some p) : PySem.W.kitAny K (.type a) [.type b, .type c, .type d] = some (r || (q || p)) := by
  unfold PySem.W.kitAny
  rw [kit_ty h]
  cases r
  · show _ = some (q || p)
    exact kitAny2 h2 h3
  · rfl
end
theorem kb_dict : ∀ v : V, kitB (tyN v) "dict" = some false := by
  have h1 : kitB "NoneType" "dict" = some false := by decide +kernel
  have h2 : kitB "bool" "dict" = some false := by decide +kernel
  have h3 : kitB "int" "dict" = some false := by decide +kernel
  have h4 : kitB "str" "dict" = some false := by decide +kernel
  intro v; cases v <;> first | exact h1 | exact h2 | exact h3 | exact h4
theorem kb_list : ∀ v : V, kitB (tyN v) "list" = some false := by
  have h1 : kitB "NoneType" "list" = some false := by decide +kernel
  have h2 : kitB "bool" "list" = some false := by decide +kernel
  have h3 : kitB "int" "list" = some false := by decide +kernel
  have h4 : kitB "str" "list" = some false := by decide +kernel
  intro v; cases v <;> first | exact h1 | exact h2 | exact h3 | exact h4
theorem kb_tuple : ∀ v : V, kitB (tyN v) "tuple" = some false := by
  have h1 : kitB "NoneType" "tuple" = some false := by decide +kernel
  have h2 : kitB "bool" "tuple" = some false := by decide +kernel
  have h3 : kitB "int" "tuple" = some false := by decide +kernel
  have h4 : kitB "str" "tuple" = some false := by decide +kernel
  intro v; cases v <;> first | exact h1 | exact h2 | exact h3 | exact h4
def spTup (n : Nat) : Sp := fun vs H Q _ => ∃ (v : V) (d : D) (S : Addr → Prop), vs = [v] ∧ Rep false H n S v d ∧ ∀ (w : V) (H' : Hp), Rep true H' n NoS w d → Same H H' → Q w H'
structure TxC (K : PySem.W.Frag) (mg : Str → Option Value) (fT : Addr) : Prop where
  z_isinstance : mg "isinstance" = none
  z_list : mg "list" = none
  z_dict : mg "dict" = none
  z_tuple : mg "tuple" = none
  m_tup : mg "_law_tupled" = some (.ref fT)
  k_tup : PySem.W.keepIn K (.ref fT) = true
section
variable {P : Program} {w : World} {K : PySem.W.Frag} {mg : Str → Option Value} {base : Heap}
theorem scTup : FnScope nTup ["_law_thing_here"] (defScope sTup) := ⟨rfl, rfl, rfl, by decide +kernel, rfl, by decide +kernel, by decide +kernel⟩
theorem ok_tup {f : Addr} {fd : FuncData} (F : Fun K "_law_tupled" "_law_tupled" sTup f fd) (T : TxC K mg f) (bT : Binds K fd ["_law_thing_here"] []) : ∀ n : Nat, FnOk P w K mg base CX0 (n + 1) f fd ["_law_thing_here"] (spTup n)
  | 0 => by
    refine F.ok scTup (fun vs H Q E h => ?_) (fun cdv A outer s H vs Q E hr h => ?_)
    · obtain ⟨v, d, S, rfl, _⟩ := h
      rfl
    · obtain ⟨v, d, S, rfl, r, _⟩ := h
      exact r.elim
  | n + 1 => by
    have GT := ok_tup F T bT n
    refine F.ok scTup (fun vs H Q E h => ?_) (fun cdv A outer s H vs Q E hr h => ?_)
    · obtain ⟨v, d, S, rfl, _⟩ := h
      rfl
    · obtain ⟨v, d, S, rfl, r, k⟩ := h
      cases d with
      | leaf x =>
        obtain ⟨rfl, lf⟩ := r
        refine ⟨_, (pss_cons (ps_if (pt_val (pe_callB call_isi (by rfl) T.z_isinstance (by decide +kernel) (pa_cons (pv 0) (pa_cons (pe_bltn (v := .ty "dict") (by rfl) T.z_dict (by decide +kernel) rfl) pa_nil)))) pss_never pss_nil) (pss_cons (ps_if (pt_not (pt_val (pe_callB call_isiT (by rfl) T.z_isinstance (by decide +kernel) (pa_cons (pv 0) (pa_cons (pe_tup (pa_cons (pe_bltn (v := .ty "list") (by rfl) T.z_list (by decide +kernel) rfl) (pa_cons (pe_bltn (v := .ty "tuple") (by rfl) T.z_tuple (by decide +kernel) rfl) pa_nil))) pa_nil))))) (pss_one (ps_ret (pv 0))) pss_nil) pss_never)), ?_⟩
        refine ⟨_, rfl, v, .ty "dict", _, _, false, rfl, .ty _, tyx_leaf lf, kit_ty (kb_dict v), _, rfl, ?_⟩
        refine iteF ?_
        refine ⟨_, rfl, (by show 2 ≤ sizeLine; decide), fun p np => ⟨v, p, [.ty "list", .ty "tuple"], _, _, false, rfl, upd_same, .cons (.ty _) (.cons (.ty _) .nil), tyx_leaf lf, kitAny2 (kb_list v) (kb_tuple v), _, rfl, ?_⟩⟩
        refine iteT ?_
        refine ⟨_, rfl, ?_⟩
        exact k v _ ⟨rfl, lf⟩ fun c o z => by rw [upd_ne (ne_of_none z np)]; exact z
      | seq ds =>
        obtain ⟨a, us, rfl, ns, ha, hl, hp⟩ := r
        rcases ha with ⟨_, ha⟩ | ha
        · refine ⟨_, (pss_cons (ps_if (pt_val (pe_callB call_isi (by rfl) T.z_isinstance (by decide +kernel) (pa_cons (pv 0) (pa_cons (pe_bltn (v := .ty "dict") (by rfl) T.z_dict (by decide +kernel) rfl) pa_nil)))) pss_never pss_nil) (pss_cons (ps_if (pt_not (pt_val (pe_callB call_isiT (by rfl) T.z_isinstance (by decide +kernel) (pa_cons (pv 0) (pa_cons (pe_tup (pa_cons (pe_bltn (v := .ty "list") (by rfl) T.z_list (by decide +kernel) rfl) (pa_cons (pe_bltn (v := .ty "tuple") (by rfl) T.z_tuple (by decide +kernel) rfl) pa_nil))) pa_nil))))) pss_never pss_nil) (pss_one (ps_ret (pe_callTy call_tuple_of (by rfl) T.z_tuple (by decide +kernel) (pa_cons (pe_lc (own := [("_law_one", 2)]) (g := gName 2) (tt := tYes) rfl scTup.nd (pi_list (pv 0)) (blkOk_by (N := nTup) (sc := defScope sTup) (by decide +kernel)) (fun _ _ _ _ _ => pg_name (i := 2) scTup.nd rfl (Or.inl rfl)) (fun _ _ _ _ _ => pts_nil) (fun _ _ _ _ _ => (pe_call GT (hr.mono (by omega)) rfl T.m_tup T.k_tup bT .nil pass0 (pa_cons (pv 2) pa_nil)))) pa_nil)))))), ?_⟩
          refine ⟨_, rfl, .ref a, .ty "dict", .type "list", _, false, rfl, .ty _, .base (.lst ha), kit_ty (by decide +kernel), _, rfl, ?_⟩
          refine iteF ?_
          refine ⟨_, rfl, (by show 2 ≤ sizeLine; decide), fun p np => ?_⟩
          have e1 : Same H (upd H p (.tup [.ty "list", .ty "tuple"])) := fun c o z => by rw [upd_ne (ne_of_none z np)]; exact z
          refine ⟨.ref a, p, [.ty "list", .ty "tuple"], .type "list", _, true, rfl, upd_same, .cons (.ty _) (.cons (.ty _) .nil), .base (.lst (e1 _ _ ha)), (kitAny2 (a := "list") (b := "list") (c := "tuple") (r := true) (q := false) (by decide +kernel) (by decide +kernel)), _, rfl, ?_⟩
          generalize upd H p (.tup [.ty "list", .ty "tuple"]) = H1 at e1
          refine iteF ?_
          refine ⟨_, rfl, a, rfl, ⟨us, SqL.of (e1 _ _ ha)⟩, fun D nD => ?_⟩
          have hD0 : H D = none := e1.free nD
          refine lc_list (K := K) (a := a) (xs := us) (fun i H3 => ∃ ws, H3 D = some (.lst ws) ∧ ws.length = i ∧ Paired (Rep true H3 n NoS) ws (ds.take i) ∧ Same H H3) ?_ ?_ ?_ ?_
          · exact ⟨[], upd_same, rfl, .nil, fun c o z => by rw [upd_ne (ne_of_none z hD0)]; exact e1 c o z⟩
          · rintro i H3 _ ⟨ws, _, _, _, e3⟩
            exact SqL.of (e3 _ _ ha)
          · rintro i x H3 hx ⟨ws, hD, hl3, hp3, e3⟩
            refine ⟨rfl, ?_⟩
            unfold tYes
            refine iteT ?_
            obtain ⟨dx, hdx, rx⟩ := Paired.get hp hx
            have hi : i < us.length := (List.getElem?_eq_some_iff.mp hx).1
            refine ⟨_, rfl, x, dx, S, rfl, rx.kp (Kp.of e3), fun y H4 ry e4 => ⟨ws, e4 _ _ hD, Nat.lt_of_le_of_lt (by omega : ws.length ≤ 2) (by decide), ws ++ [y], upd_same, by rw [List.length_append, hl3]; rfl, ?_, ?_⟩⟩
            · have s1 : ∀ xs, H4 D ≠ some (.tup xs) := fun xs z => by rw [e4 _ _ hD] at z; cases z
              have s2 : ∀ ks, H4 D ≠ some (.dK ks) := fun xs z => by rw [e4 _ _ hD] at z; cases z
              rw [take_snoc hdx]
              exact Paired.push (Paired.mapP hp3 fun _ _ z => (z.kp (Kp.noS e4)).skip s1 s2) (ry.skip s1 s2)
            · exact fun c o z => by rw [upd_ne (ne_of_none z hD0)]; exact e4 c o (e3 c o z)
          · rintro H3 ⟨ws, hD, hl3, hp3, e3⟩
            rw [show us.length = ds.length from Paired.length hp, List.take_length] at hp3
            refine ⟨D, ws, rfl, .inl ⟨SqL.of hD, fun l nl => ?_⟩⟩
            have e : Same H3 (upd H3 l (.tup ws)) := fun c o z => by rw [upd_ne (ne_of_none z nl)]; exact z
            exact k (.ref l) _ ⟨l, ws, rfl, id, .inr upd_same, by omega, Paired.mapP hp3 fun _ _ z => z.kp (Kp.noS e)⟩ (e3.trans e)
        · refine ⟨_, (pss_cons (ps_if (pt_val (pe_callB call_isi (by rfl) T.z_isinstance (by decide +kernel) (pa_cons (pv 0) (pa_cons (pe_bltn (v := .ty "dict") (by rfl) T.z_dict (by decide +kernel) rfl) pa_nil)))) pss_never pss_nil) (pss_cons (ps_if (pt_not (pt_val (pe_callB call_isiT (by rfl) T.z_isinstance (by decide +kernel) (pa_cons (pv 0) (pa_cons (pe_tup (pa_cons (pe_bltn (v := .ty "list") (by rfl) T.z_list (by decide +kernel) rfl) (pa_cons (pe_bltn (v := .ty "tuple") (by rfl) T.z_tuple (by decide +kernel) rfl) pa_nil))) pa_nil))))) pss_never pss_nil) (pss_one (ps_ret (pe_callTy call_tuple_of (by rfl) T.z_tuple (by decide +kernel) (pa_cons (pe_lc (own := [("_law_one", 2)]) (g := gName 2) (tt := tYes) rfl scTup.nd (pi_tup (pv 0)) (blkOk_by (N := nTup) (sc := defScope sTup) (by decide +kernel)) (fun _ _ _ _ _ => pg_name (i := 2) scTup.nd rfl (Or.inl rfl)) (fun _ _ _ _ _ => pts_nil) (fun _ _ _ _ _ => (pe_call GT (hr.mono (by omega)) rfl T.m_tup T.k_tup bT .nil pass0 (pa_cons (pv 2) pa_nil)))) pa_nil)))))), ?_⟩
          refine ⟨_, rfl, .ref a, .ty "dict", .type "tuple", _, false, rfl, .ty _, .base (.tup ha), kit_ty (by decide +kernel), _, rfl, ?_⟩
          refine iteF ?_
          refine ⟨_, rfl, (by show 2 ≤ sizeLine; decide), fun p np => ?_⟩
          have e1 : Same H (upd H p (.tup [.ty "list", .ty "tuple"])) := fun c o z => by rw [upd_ne (ne_of_none z np)]; exact z
          refine ⟨.ref a, p, [.ty "list", .ty "tuple"], .type "tuple", _, true, rfl, upd_same, .cons (.ty _) (.cons (.ty _) .nil), .base (.tup (e1 _ _ ha)), (kitAny2 (a := "tuple") (b := "list") (c := "tuple") (r := false) (q := true) (by decide +kernel) (by decide +kernel)), _, rfl, ?_⟩
          generalize upd H p (.tup [.ty "list", .ty "tuple"]) = H1 at e1
          refine iteF ?_
          refine ⟨_, rfl, a, rfl, ⟨us, SqT.of (e1 _ _ ha)⟩, fun D nD => ?_⟩
          have hD0 : H D = none := e1.free nD
          refine lc_tup (K := K) (a := a) (xs := us) (fun i H3 => ∃ ws, H3 D = some (.lst ws) ∧ ws.length = i ∧ Paired (Rep true H3 n NoS) ws (ds.take i) ∧ Same H H3) ?_ ?_ ?_ ?_
          · exact ⟨[], upd_same, rfl, .nil, fun c o z => by rw [upd_ne (ne_of_none z hD0)]; exact e1 c o z⟩
          · rintro i H3 _ ⟨ws, _, _, _, e3⟩
            exact SqT.of (e3 _ _ ha)
          · rintro i x H3 hx ⟨ws, hD, hl3, hp3, e3⟩
            refine ⟨rfl, ?_⟩
            unfold tYes
            refine iteT ?_
            obtain ⟨dx, hdx, rx⟩ := Paired.get hp hx
            have hi : i < us.length := (List.getElem?_eq_some_iff.mp hx).1
            refine ⟨_, rfl, x, dx, S, rfl, rx.kp (Kp.of e3), fun y H4 ry e4 => ⟨ws, e4 _ _ hD, Nat.lt_of_le_of_lt (by omega : ws.length ≤ 2) (by decide), ws ++ [y], upd_same, by rw [List.length_append, hl3]; rfl, ?_, ?_⟩⟩
            · have s1 : ∀ xs, H4 D ≠ some (.tup xs) := fun xs z => by rw [e4 _ _ hD] at z; cases z
              have s2 : ∀ ks, H4 D ≠ some (.dK ks) := fun xs z => by rw [e4 _ _ hD] at z; cases z
              rw [take_snoc hdx]
              exact Paired.push (Paired.mapP hp3 fun _ _ z => (z.kp (Kp.noS e4)).skip s1 s2) (ry.skip s1 s2)
            · exact fun c o z => by rw [upd_ne (ne_of_none z hD0)]; exact e4 c o (e3 c o z)
          · rintro H3 ⟨ws, hD, hl3, hp3, e3⟩
            rw [show us.length = ds.length from Paired.length hp, List.take_length] at hp3
            refine ⟨D, ws, rfl, .inl ⟨SqL.of hD, fun l nl => ?_⟩⟩
            have e : Same H3 (upd H3 l (.tup ws)) := fun c o z => by rw [upd_ne (ne_of_none z nl)]; exact z
            exact k (.ref l) _ ⟨l, ws, rfl, id, .inr upd_same, by omega, Paired.mapP hp3 fun _ _ z => z.kp (Kp.noS e)⟩ (e3.trans e)
      | dct x =>
        obtain ⟨a, u, rfl, ns, ha, hq, hp⟩ := r
        refine ⟨_, (pss_cons (ps_if (pt_val (pe_callB call_isi (by rfl) T.z_isinstance (by decide +kernel) (pa_cons (pv 0) (pa_cons (pe_bltn (v := .ty "dict") (by rfl) T.z_dict (by decide +kernel) rfl) pa_nil)))) (pss_one (ps_ret (pe_callTy (call_dictP rfl) (by rfl) T.z_dict (by decide +kernel) (pa_cons (pe_lock (pe_lc (own := [("_law_key", 1)]) (g := gName 1) (tt := tYes) rfl scTup.nd (pi_keys (pv 0)) (blkOk_by (N := nTup) (sc := defScope sTup) (by decide +kernel)) (fun _ _ _ _ _ => pg_name (i := 1) scTup.nd rfl (Or.inl rfl)) (fun _ _ _ _ _ => pts_nil) (fun _ _ _ _ _ => pe_tup (pa_cons (pv 1) (pa_cons (pe_call GT (hr.mono (by omega)) rfl T.m_tup T.k_tup bT .nil pass0 (pa_cons (pe_dget (hu_of hr) (pv 0) (pv 1) (fun _ _ => rfl)) pa_nil)) pa_nil))))) pa_nil)))) pss_nil) pss_never), ?_⟩
        refine ⟨_, rfl, .ref a, .ty "dict", .type "dict", _, true, rfl, .ty _, .base (.dK ha), kit_ty (by decide +kernel), _, rfl, ?_⟩
        refine iteT ?_
        refine ⟨a, _, ha, trivial, fun od => ⟨_, rfl, a, od, rfl, .inl ⟨_, upd_same, fun D nD => ?_⟩⟩⟩
        have hda : D ≠ a := fun z => by rw [z, upd_same] at nD; cases nD
        have hD0 : H D = none := by rw [upd_ne hda] at nD; exact nD
        have f0 : ∀ c o, c ≠ a → H c = some o → upd H a (.frz od (.dK [(keyA, u)])) c = some o := fun c o hc z => by rw [upd_ne hc]; exact z
        refine lc_it walk_keys (fun i H3 => H3 a = some (.frz od (.dK [(keyA, u)])) ∧ (∀ c o, c ≠ a → H c = some o → H3 c = some o) ∧ ((i = 0 ∧ H3 D = some (.lst [])) ∨ (i = 1 ∧ ∃ q w, q ≠ a ∧ H3 D = some (.lst [.ref q]) ∧ H3 q = some (.tup [.str "a", w]) ∧ Rep true H3 n NoS w x))) ?_ ?_ ?_ ?_
        · refine ⟨by rw [upd_ne (Ne.symm hda)]; exact upd_same, fun c o hc z => ?_, .inl ⟨rfl, upd_same⟩⟩
          rw [upd_ne (ne_of_none z hD0)]
          exact f0 c o hc z
        · rintro i H3 _ ⟨h1, _⟩
          exact h1
        · rintro i y H3o H3 hi ⟨h1, h2, h3⟩ ⟨rfl, key, val, hk, rfl⟩
          have hi0 : i = 0 := by
            have : i < 1 := hi
            omega
          subst hi0
          obtain ⟨rfl, rfl⟩ : keyA = key ∧ u = val := by
            have z : some (keyA, u) = some (key, val) := hk
            injection z with z
            injection z with z1 z2
            exact ⟨z1, z2⟩
          have hD : H3 D = some (.lst []) := by
            rcases h3 with ⟨_, z⟩ | ⟨z, _⟩
            · exact z
            · omega
          refine ⟨rfl, ?_⟩
          unfold tYes
          refine iteT ?_
          have ru : Rep false H3 n (fun c => S c ∨ c = a) u x := hp.kp fun c o z q => h2 c o (fun e => q (.inr e)) z
          refine ⟨_, rfl, _, rfl, _, rfl, a, u, rfl, .inl ⟨[(keyA, u)], keyA, .inr ⟨od, h1⟩, rfl, by simp [valV]⟩, u, x, _, rfl, ru, fun w H4 rw' e4 => ⟨by show 2 ≤ sizeLine; decide, fun q nq => ?_⟩⟩
          have e5 : Same H4 (upd H4 q (.tup [.str "a", w])) := fun c o z => by rw [upd_ne (ne_of_none z nq)]; exact z
          have q3 : H3 q = none := e4.free nq
          have hqD : q ≠ D := fun z => by rw [z, hD] at q3; cases q3
          have hqa : q ≠ a := fun z => by rw [z, h1] at q3; cases q3
          have hD5 := e5 _ _ (e4 _ _ hD)
          refine ⟨[], hD5, by decide, ?_, fun c o hc z => ?_, .inr ⟨rfl, q, w, hqa, upd_same, ?_, ?_⟩⟩
          · rw [upd_ne (Ne.symm hda)]
            exact e5 _ _ (e4 _ _ h1)
          · rw [upd_ne (ne_of_none z hD0)]
            exact e5 _ _ (e4 _ _ (h2 c o hc z))
          · rw [upd_ne hqD]
            exact upd_same
          · exact (rw'.kp (Kp.noS e5)).skip (fun xs z => by rw [hD5] at z; cases z) (fun xs z => by rw [hD5] at z; cases z)
        · rintro H3 ⟨h1, h2, h3⟩
          obtain ⟨q, w, hqa, hD, hq3, rw'⟩ : ∃ q w, q ≠ a ∧ H3 D = some (.lst [.ref q]) ∧ H3 q = some (.tup [.str "a", w]) ∧ Rep true H3 n NoS w x := by
            rcases h3 with ⟨z, _⟩ | ⟨_, z⟩
            · simp at z
            · exact z
          refine ⟨h1, ?_⟩
          have g1 : ∀ c o, H c = some o → upd H3 a (.dK [(keyA, u)]) c = some o := fun c o z => by
            by_cases hc : c = a
            · rw [hc, upd_same, ← ha, ← hc]; exact z
            · rw [upd_ne hc]; exact h2 c o hc z
          have r4 : Rep true (upd H3 a (.dK [(keyA, u)])) n NoS w x := rw'.skip (fun xs z => by rw [h1] at z; cases z) (fun xs z => by rw [h1] at z; cases z)
          have hD4 : upd H3 a (.dK [(keyA, u)]) D = some (.lst [.ref q]) := by rw [upd_ne hda]; exact hD
          have hq4 : upd H3 a (.dK [(keyA, u)]) q = some (.tup [.str "a", w]) := by rw [upd_ne hqa]; exact hq3
          generalize upd H3 a (.dK [(keyA, u)]) = H4 at g1 r4 hD4 hq4
          refine ⟨D, [q], [(keyA, w)], rfl, SqL.of hD4, .cons (SqT.of hq4) .nil, fun p np => ?_⟩
          have e5 : Same H4 (upd H4 p (.dK (mergeK [] [(keyA, w)]))) := fun c o z => by rw [upd_ne (ne_of_none z np)]; exact z
          exact k (.ref p) _ ⟨p, w, rfl, id, upd_same, hq, (Rep.add np r4).kp fun c o z _ => e5 c o z⟩ fun c o z => e5 c o (g1 c o z)
end
end L2.E5

namespace L2.E5
open PySem PySem.Spec PyProof.Rows L2.Vx
abbrev sSame : Stmt := top 30
abbrev nSame : List Str := ["_law_found", "_law_due", "_law_one", "_law_other"]
theorem leafy_flat : ∀ {v : V}, leafy v = true → flatB v = true
  | .non, _ => rfl
  | .bl _, _ => rfl
  | .int _, _ => rfl
  | .str _, _ => rfl
theorem vals_at {xs : List V} {us : List Value} {i : Nat} {x : V} (r : Vals xs us) (h : xs[i]? = some x) (hi : i < us.length) : RelV x us[i] := by
  obtain ⟨u, h1, h2⟩ := Vals.get r h
  rw [List.getElem?_eq_getElem hi] at h1
  cases h1
  exact h2
/-! ### two that show the same, taken as tuples, are equal -/
section
variable {X : Cx} {pins : List (Addr × Obj)} {σ : St} {H : Hp} {s : Shared}
theorem dct_rc (I : Inv X pins σ H s) (A : Around) (p q : Addr) (a b : V) (hu : A.units < cLine) (hp : H p = some (.dK [(keyA, a)])) (hq : H q = some (.dK [(keyA, b)]))
    (ih : ∀ u1 u2, RelV a u1 → RelV b u2 → SeqAt.EqP X.prog X.w A.in1 s u1 u2 true) (E Q : Value → Shared → Prop) (hQ : Q (.bool true) s) : wpAny (model X.prog X.w) A (richCompare .Eq (.ref p) (.ref q)) Q E s := by
  obtain ⟨_, ya, va, ra, da⟩ := (show ObjOk X.prog X.w H s.heap p (.dK [(keyA, a)]) from I.hok p _ hp)
  obtain ⟨_, yb, vb, rb, db⟩ := (show ObjOk X.prog X.w H s.heap q (.dK [(keyA, b)]) from I.hok q _ hq)
  cases ra with
  | cons h1 t1 =>
    cases t1
    cases rb with
    | cons h2 t2 =>
      cases t2
      rename_i k1 k2
      obtain ⟨k1, u1⟩ := k1
      obtain ⟨k2, u2⟩ := k2
      obtain ⟨z1, r1⟩ := h1
      obtain ⟨z2, r2⟩ := h2
      simp only at z1 z2 r1 r2
      subst z1 z2
      refine PySem.W.rcP_dicts (knd := mixKind X.prog X.w) (r := true) ya yb da db hu (fun _ => ?_) E Q (by simpa using hQ)
      exact .hit (e := true) (b := true) (by simp [valueAt]) (ih u1 u2 r1 r2) .nil
theorem rep_eqP (I : Inv X pins σ H s) : ∀ (n : Nat) (A : Around) (S S' : Addr → Prop) (x y : V) (u v : Value) (d : D), A.units + n < cLine → Rep true H n S x d → Rep true H n S' y d → RelV x u → RelV y v → SeqAt.EqP X.prog X.w A s u v true
  | 0, _, _, _, _, _, _, _, _, _, h, _, _, _ => h.elim
  | n + 1, A, S, S', x, y, u, v, .leaf z, hu, ⟨e1, lf⟩, ⟨e2, _⟩, rx, ry => by
    subst e1 e2
    exact (eqAt_same rx ry (leafy_flat lf)).eqP
  | n + 1, A, S, S', x, y, u, v, .seq ds, hu, ⟨p, us, e1, _, hp, _, pp⟩, ⟨q, ws, e2, _, hq, _, pq⟩, rx, ry => by
    subst e1 e2
    cases (show u = Value.ref p from rx)
    cases (show v = Value.ref q from ry)
    by_cases hpq : p = q
    · subst hpq
      exact (SeqAt.EqAt.same _).eqP
    · have hp' : H p = some (.tup us) := hp.elim (fun z => nomatch z.1) id
      have hq' : H q = some (.tup ws) := hq.elim (fun z => nomatch z.1) id
      obtain ⟨i1, r1, t1, _⟩ := I.tuple (SqT.of hp')
      obtain ⟨i2, r2, t2, _⟩ := I.tuple (SqT.of hq')
      have l1 : i1.length = ds.length := (Paired.length r1).symm.trans (Paired.length pp)
      have l2 : i2.length = ds.length := (Paired.length r2).symm.trans (Paired.length pq)
      refine SeqAt.eqP_refs hpq fun E Q hQ => ?_
      refine GQ.rc_tupG (items := i1.toArray) (items2 := i2.toArray) (by rw [List.size_toArray, List.size_toArray, l1, l2]) (by omega) (fun _ s' => s' = s) t1 t2 (fun i h1 h2 s' es => ?_) (fun s' es => by rw [es]; exact hQ) rfl
      rw [es]
      have g1 : i < us.length := by rw [Paired.length r1]; simpa using h1
      have g2 : i < ws.length := by rw [Paired.length r2]; simpa using h2
      obtain ⟨d1, hd1, rd1⟩ := Paired.get pp (List.getElem?_eq_getElem g1)
      obtain ⟨d2, hd2, rd2⟩ := Paired.get pq (List.getElem?_eq_getElem g2)
      rw [hd1] at hd2
      cases hd2
      have v1 := vals_at r1 (List.getElem?_eq_getElem g1) (by simpa using h1)
      have v2 := vals_at r2 (List.getElem?_eq_getElem g2) (by simpa using h2)
      have ih := rep_eqP I n A.in1 S S' _ _ _ _ d1 (by show A.units + 1 + n < cLine; omega) rd1 rd2 v1 v2
      exact ih E _ ⟨rfl, rfl⟩
  | n + 1, A, S, S', x, y, u, v, .dct d, hu, ⟨p, a, e1, _, hp, _, pp⟩, ⟨q, b, e2, _, hq, _, pq⟩, rx, ry => by
    subst e1 e2
    cases (show u = Value.ref p from rx)
    cases (show v = Value.ref q from ry)
    by_cases hpq : p = q
    · subst hpq
      exact (SeqAt.EqAt.same _).eqP
    · exact SeqAt.eqP_refs hpq fun E Q hQ => dct_rc I A p q a b (by omega) hp hq (fun u1 u2 r1 r2 => rep_eqP I n A.in1 _ _ a b u1 u2 d (by show A.units + 1 + n < cLine; omega) pp pq r1 r2) E Q hQ
end
/-- a == b, two dicts that show the same -/
def rDct : R2 := fun x y H Q => ∃ (n : Nat) (S S' : Addr → Prop) (d : D), n ≤ 50 ∧ Rep true H n S x (.dct d) ∧ Rep true H n S' y (.dct d) ∧ Q (.bl true) H
theorem op_dct {X : Cx} (hu : X.A.units + 64 < cLine) : OpR X (compareOp .Eq) rDct := by
  intro pins s σ H x y v u Q I rx ry h
  obtain ⟨n, S, S', d, hn, h1, h2, q⟩ := h
  cases n with
  | zero => exact h1.elim
  | succ n =>
    obtain ⟨p, a, e1, _, hp, _, pp⟩ := h1
    obtain ⟨q', b, e2, _, hq, _, pq⟩ := h2
    subst e1 e2
    cases (show v = Value.ref p from rx)
    cases (show u = Value.ref q' from ry)
    exact dct_rc I X.A p q' a b (by omega) hp hq (fun u1 u2 r1 r2 => rep_eqP I n X.A.in1 _ _ a b u1 u2 d (by show X.A.units + 1 + n < cLine; omega) pp pq r1 r2) _ _ ⟨.bl true, H, I, rfl, q⟩
end L2.E5

namespace L2.E5
open PySem PySem.Spec PyProof.Rows L2.Vx
def spSame (n : Nat) : Sp := fun vs H Q _ => ∃ (v w : V) (d : D) (S S' : Addr → Prop), vs = [v, w] ∧ Rep true H n S v d ∧ Rep true H n S' w d ∧ n ≤ 50 ∧ ∀ H', Same H H' → Q (.bl true) H'
structure TxD (K : PySem.W.Frag) (mg : Str → Option Value) (fS : Addr) : Prop where
  z_isinstance : mg "isinstance" = none
  z_list : mg "list" = none
  z_tuple : mg "tuple" = none
  z_int : mg "int" = none
  z_bool : mg "bool" = none
  z_len : mg "len" = none
  z_all : mg "all" = none
  z_zip : mg "zip" = none
  m_same : mg "_law_same" = some (.ref fS)
  k_same : PySem.W.keepIn K (.ref fS) = true
theorem walk_zipT {K : PySem.W.Frag} {a b : Addr} {xs ys : List V} (hl : xs.length = ys.length) : Walk (RZ.ItzT K a b) xs.length (fun H => SqT K H a xs ∧ SqT K H b ys) (YPair (fun i => xs[i]?) (fun i => ys[i]?)) := by
  refine ⟨fun i _ hi q => ?_, fun _ q => ⟨xs, ys, q.1, q.2, .inl (Nat.le_refl _)⟩, fun i H v H' _ q y => ?_⟩
  · exact ⟨xs, ys, xs[i], ys[i]'(by omega), q.1, q.2, List.getElem?_eq_getElem hi, List.getElem?_eq_getElem _⟩
  · obtain ⟨T, x, z, z1, z2, z3, z4, z5⟩ := y
    exact ⟨T, x, z, z1, z2, z3, z4 xs q.1, z5 ys q.2⟩
theorem same_new {H : Hp} {p : Addr} {o : HO} (h : H p = none) : Same H (upd H p o) := fun c u z => by
  rw [upd_ne (ne_of_none z h)]; exact z
section
variable {P : Program} {w : World} {K : PySem.W.Frag} {mg : Str → Option Value} {base : Heap}
theorem scSame : FnScope nSame ["_law_found", "_law_due"] (defScope sSame) := ⟨rfl, rfl, rfl, by decide +kernel, rfl, by decide +kernel, by decide +kernel⟩
theorem ok_same {f : Addr} {fd : FuncData} (F : Fun K "_law_same" "_law_same" sSame f fd) (T : TxD K mg f) (bS : Binds K fd ["_law_found", "_law_due"] []) : ∀ n : Nat, FnOk P w K mg base CX0 (n + 1) f fd ["_law_found", "_law_due"] (spSame n)
  | 0 => by
    refine F.ok scSame (fun vs H Q E h => ?_) (fun cdv A outer s H vs Q E hr h => ?_)
    · obtain ⟨v, w, d, S, S', rfl, _⟩ := h
      rfl
    · obtain ⟨v, w, d, S, S', rfl, r, _⟩ := h
      exact r.elim
  | n + 1 => by
    have GS := ok_same F T bS n
    refine F.ok scSame (fun vs H Q E h => ?_) (fun cdv A outer s H vs Q E hr h => ?_)
    · obtain ⟨v, w, d, S, S', rfl, _⟩ := h
      rfl
    · obtain ⟨v, w, d, S, S', rfl, r1, r2, hn, k⟩ := h
      cases d with
      | leaf x =>
        obtain ⟨rfl, lf⟩ := r1
        obtain ⟨rfl, _⟩ := r2
        cases w with
        | bl y =>
          refine ⟨_, (pss_cons (ps_if (pt_val (pe_callB call_isiT (by rfl) T.z_isinstance (by decide +kernel) (pa_cons (pv 1) (pa_cons (pe_tup (pa_cons (pe_bltn (v := .ty "list") (by rfl) T.z_list (by decide +kernel) rfl) (pa_cons (pe_bltn (v := .ty "tuple") (by rfl) T.z_tuple (by decide +kernel) rfl) pa_nil))) pa_nil)))) pss_never pss_nil) (pss_cons (ps_if (pt_val (pe_callB call_isi (by rfl) T.z_isinstance (by decide +kernel) (pa_cons (pv 1) (pa_cons (pe_bltn (v := .ty "int") (by rfl) T.z_int (by decide +kernel) rfl) pa_nil)))) (pss_one (ps_ret (pe_and (pe_callB call_isi (by rfl) T.z_isinstance (by decide +kernel) (pa_cons (pv 0) (pa_cons (pe_bltn (v := .ty "int") (by rfl) T.z_int (by decide +kernel) rfl) pa_nil))) (pe_and (pe_cmpR op_eq (pe_callB call_isi (by rfl) T.z_isinstance (by decide +kernel) (pa_cons (pv 0) (pa_cons (pe_bltn (v := .ty "bool") (by rfl) T.z_bool (by decide +kernel) rfl) pa_nil))) (pe_callB call_isi (by rfl) T.z_isinstance (by decide +kernel) (pa_cons (pv 1) (pa_cons (pe_bltn (v := .ty "bool") (by rfl) T.z_bool (by decide +kernel) rfl) pa_nil))) (nomark _)) (pe_one (pe_cmpR op_eq (pv 0) (pv 1) (nomark _))))))) pss_nil) pss_never)), ?_⟩
          refine ⟨_, rfl, (by show 2 ≤ sizeLine; decide), fun p np => ⟨(.bl y), p, [.ty "list", .ty "tuple"], _, _, _, rfl, upd_same, .cons (.ty _) (.cons (.ty _) (.nil)), (.base (.bl y)), (kitAny2 (a := "bool") (b := "list") (c := "tuple") (r := false) (q := false) (by decide +kernel) (by decide +kernel)), _, rfl, ?_⟩⟩
          have e1 := same_new (o := .tup [.ty "list", .ty "tuple"]) np
          refine iteF ?_
          refine ⟨_, rfl, (.bl y), .ty "int", _, _, _, rfl, .ty _, (.base (.bl y)), (kit_ty (a := "bool") (b := "int") (r := true) (by decide +kernel)), _, rfl, ?_⟩
          refine iteT ?_
          refine ⟨_, rfl, (.bl y), .ty "int", _, _, _, rfl, .ty _, (.base (.bl y)), (kit_ty (a := "bool") (b := "int") (r := true) (by decide +kernel)), _, rfl, ?_⟩
          refine iteT ?_
          refine ⟨_, rfl, (.bl y), .ty "bool", _, _, _, rfl, .ty _, (.base (.bl y)), (kit_ty (a := "bool") (b := "bool") (r := true) (by decide +kernel)), _, rfl, (.bl y), .ty "bool", _, _, _, rfl, .ty _, (.base (.bl y)), (kit_ty (a := "bool") (b := "bool") (r := true) (by decide +kernel)), rfl, _, rfl, ?_⟩
          rw [decide_eq_true rfl]
          refine iteT ?_
          refine ⟨_, rfl, _, rfl, rfl, ?_⟩
          rw [decide_eq_true rfl]
          exact k _ e1
        | int y =>
          refine ⟨_, (pss_cons (ps_if (pt_val (pe_callB call_isiT (by rfl) T.z_isinstance (by decide +kernel) (pa_cons (pv 1) (pa_cons (pe_tup (pa_cons (pe_bltn (v := .ty "list") (by rfl) T.z_list (by decide +kernel) rfl) (pa_cons (pe_bltn (v := .ty "tuple") (by rfl) T.z_tuple (by decide +kernel) rfl) pa_nil))) pa_nil)))) pss_never pss_nil) (pss_cons (ps_if (pt_val (pe_callB call_isi (by rfl) T.z_isinstance (by decide +kernel) (pa_cons (pv 1) (pa_cons (pe_bltn (v := .ty "int") (by rfl) T.z_int (by decide +kernel) rfl) pa_nil)))) (pss_one (ps_ret (pe_and (pe_callB call_isi (by rfl) T.z_isinstance (by decide +kernel) (pa_cons (pv 0) (pa_cons (pe_bltn (v := .ty "int") (by rfl) T.z_int (by decide +kernel) rfl) pa_nil))) (pe_and (pe_cmpR op_eq (pe_callB call_isi (by rfl) T.z_isinstance (by decide +kernel) (pa_cons (pv 0) (pa_cons (pe_bltn (v := .ty "bool") (by rfl) T.z_bool (by decide +kernel) rfl) pa_nil))) (pe_callB call_isi (by rfl) T.z_isinstance (by decide +kernel) (pa_cons (pv 1) (pa_cons (pe_bltn (v := .ty "bool") (by rfl) T.z_bool (by decide +kernel) rfl) pa_nil))) (nomark _)) (pe_one (pe_cmpR op_eq (pv 0) (pv 1) (nomark _))))))) pss_nil) pss_never)), ?_⟩
          refine ⟨_, rfl, (by show 2 ≤ sizeLine; decide), fun p np => ⟨(.int y), p, [.ty "list", .ty "tuple"], _, _, _, rfl, upd_same, .cons (.ty _) (.cons (.ty _) (.nil)), (.base (.int y)), (kitAny2 (a := "int") (b := "list") (c := "tuple") (r := false) (q := false) (by decide +kernel) (by decide +kernel)), _, rfl, ?_⟩⟩
          have e1 := same_new (o := .tup [.ty "list", .ty "tuple"]) np
          refine iteF ?_
          refine ⟨_, rfl, (.int y), .ty "int", _, _, _, rfl, .ty _, (.base (.int y)), (kit_ty (a := "int") (b := "int") (r := true) (by decide +kernel)), _, rfl, ?_⟩
          refine iteT ?_
          refine ⟨_, rfl, (.int y), .ty "int", _, _, _, rfl, .ty _, (.base (.int y)), (kit_ty (a := "int") (b := "int") (r := true) (by decide +kernel)), _, rfl, ?_⟩
          refine iteT ?_
          refine ⟨_, rfl, (.int y), .ty "bool", _, _, _, rfl, .ty _, (.base (.int y)), (kit_ty (a := "int") (b := "bool") (r := false) (by decide +kernel)), _, rfl, (.int y), .ty "bool", _, _, _, rfl, .ty _, (.base (.int y)), (kit_ty (a := "int") (b := "bool") (r := false) (by decide +kernel)), rfl, _, rfl, ?_⟩
          rw [decide_eq_true rfl]
          refine iteT ?_
          refine ⟨_, rfl, _, rfl, rfl, ?_⟩
          rw [decide_eq_true rfl]
          exact k _ e1
        | non =>
          refine ⟨_, (pss_cons (ps_if (pt_val (pe_callB call_isiT (by rfl) T.z_isinstance (by decide +kernel) (pa_cons (pv 1) (pa_cons (pe_tup (pa_cons (pe_bltn (v := .ty "list") (by rfl) T.z_list (by decide +kernel) rfl) (pa_cons (pe_bltn (v := .ty "tuple") (by rfl) T.z_tuple (by decide +kernel) rfl) pa_nil))) pa_nil)))) pss_never pss_nil) (pss_cons (ps_if (pt_val (pe_callB call_isi (by rfl) T.z_isinstance (by decide +kernel) (pa_cons (pv 1) (pa_cons (pe_bltn (v := .ty "int") (by rfl) T.z_int (by decide +kernel) rfl) pa_nil)))) pss_never pss_nil) (pss_one (ps_ret (pe_and (pe_cmpR op_eq (pv 0) (pv 1) (nomark _)) (pe_one (pe_cmpR op_isBl (pe_callB call_isiT (by rfl) T.z_isinstance (by decide +kernel) (pa_cons (pv 0) (pa_cons (pe_tup (pa_cons (pe_bltn (v := .ty "int") (by rfl) T.z_int (by decide +kernel) rfl) (pa_cons (pe_bltn (v := .ty "list") (by rfl) T.z_list (by decide +kernel) rfl) (pa_cons (pe_bltn (v := .ty "tuple") (by rfl) T.z_tuple (by decide +kernel) rfl) pa_nil)))) pa_nil))) pe_bl (nomark _)))))))), ?_⟩
          refine ⟨_, rfl, (by show 2 ≤ sizeLine; decide), fun p np => ⟨.non, p, [.ty "list", .ty "tuple"], _, _, _, rfl, upd_same, .cons (.ty _) (.cons (.ty _) (.nil)), (.base .non), (kitAny2 (a := "NoneType") (b := "list") (c := "tuple") (r := false) (q := false) (by decide +kernel) (by decide +kernel)), _, rfl, ?_⟩⟩
          have e1 := same_new (o := .tup [.ty "list", .ty "tuple"]) np
          refine iteF ?_
          refine ⟨_, rfl, .non, .ty "int", _, _, _, rfl, .ty _, (.base .non), (kit_ty (a := "NoneType") (b := "int") (r := false) (by decide +kernel)), _, rfl, ?_⟩
          refine iteF ?_
          refine ⟨_, rfl, _, rfl, rfl, _, rfl, ?_⟩
          rw [decide_eq_true rfl]
          refine iteT ?_
          refine ⟨_, rfl, (by show 3 ≤ sizeLine; decide), fun p np => ⟨.non, p, [.ty "int", .ty "list", .ty "tuple"], _, _, _, rfl, upd_same, .cons (.ty _) (.cons (.ty _) (.cons (.ty _) (.nil))), (.base .non), (kitAny3 (a := "NoneType") (b := "int") (c := "list") (d := "tuple") (r := false) (q := false) (p := false) (by decide +kernel) (by decide +kernel) (by decide +kernel)), false, false, rfl, rfl, ?_⟩⟩
          exact k _ (e1.trans (same_new np))
        | str y =>
          refine ⟨_, (pss_cons (ps_if (pt_val (pe_callB call_isiT (by rfl) T.z_isinstance (by decide +kernel) (pa_cons (pv 1) (pa_cons (pe_tup (pa_cons (pe_bltn (v := .ty "list") (by rfl) T.z_list (by decide +kernel) rfl) (pa_cons (pe_bltn (v := .ty "tuple") (by rfl) T.z_tuple (by decide +kernel) rfl) pa_nil))) pa_nil)))) pss_never pss_nil) (pss_cons (ps_if (pt_val (pe_callB call_isi (by rfl) T.z_isinstance (by decide +kernel) (pa_cons (pv 1) (pa_cons (pe_bltn (v := .ty "int") (by rfl) T.z_int (by decide +kernel) rfl) pa_nil)))) pss_never pss_nil) (pss_one (ps_ret (pe_and (pe_cmpR op_eq (pv 0) (pv 1) (nomark _)) (pe_one (pe_cmpR op_isBl (pe_callB call_isiT (by rfl) T.z_isinstance (by decide +kernel) (pa_cons (pv 0) (pa_cons (pe_tup (pa_cons (pe_bltn (v := .ty "int") (by rfl) T.z_int (by decide +kernel) rfl) (pa_cons (pe_bltn (v := .ty "list") (by rfl) T.z_list (by decide +kernel) rfl) (pa_cons (pe_bltn (v := .ty "tuple") (by rfl) T.z_tuple (by decide +kernel) rfl) pa_nil)))) pa_nil))) pe_bl (nomark _)))))))), ?_⟩
          refine ⟨_, rfl, (by show 2 ≤ sizeLine; decide), fun p np => ⟨(.str y), p, [.ty "list", .ty "tuple"], _, _, _, rfl, upd_same, .cons (.ty _) (.cons (.ty _) (.nil)), (.base (.str y)), (kitAny2 (a := "str") (b := "list") (c := "tuple") (r := false) (q := false) (by decide +kernel) (by decide +kernel)), _, rfl, ?_⟩⟩
          have e1 := same_new (o := .tup [.ty "list", .ty "tuple"]) np
          refine iteF ?_
          refine ⟨_, rfl, (.str y), .ty "int", _, _, _, rfl, .ty _, (.base (.str y)), (kit_ty (a := "str") (b := "int") (r := false) (by decide +kernel)), _, rfl, ?_⟩
          refine iteF ?_
          refine ⟨_, rfl, _, rfl, rfl, _, rfl, ?_⟩
          rw [decide_eq_true rfl]
          refine iteT ?_
          refine ⟨_, rfl, (by show 3 ≤ sizeLine; decide), fun p np => ⟨(.str y), p, [.ty "int", .ty "list", .ty "tuple"], _, _, _, rfl, upd_same, .cons (.ty _) (.cons (.ty _) (.cons (.ty _) (.nil))), (.base (.str y)), (kitAny3 (a := "str") (b := "int") (c := "list") (d := "tuple") (r := false) (q := false) (p := false) (by decide +kernel) (by decide +kernel) (by decide +kernel)), false, false, rfl, rfl, ?_⟩⟩
          exact k _ (e1.trans (same_new np))
        | byt y => cases lf
        | flt y => cases lf
        | ref y => cases lf
        | ty y => cases lf
      | seq ds =>
        obtain ⟨p1, us, rfl, ns1, h1, hl1, hp1⟩ := r1
        obtain ⟨p2, ws, rfl, ns2, h2, hl2, hp2⟩ := r2
        have g1 : H p1 = some (.tup us) := h1.elim (fun z => nomatch z.1) id
        have g2 : H p2 = some (.tup ws) := h2.elim (fun z => nomatch z.1) id
        have hlen : us.length = ws.length := (Paired.length hp1).trans (Paired.length hp2).symm
        refine ⟨_, (pss_cons (ps_if (pt_val (pe_callB call_isiT (by rfl) T.z_isinstance (by decide +kernel) (pa_cons (pv 1) (pa_cons (pe_tup (pa_cons (pe_bltn (v := .ty "list") (by rfl) T.z_list (by decide +kernel) rfl) (pa_cons (pe_bltn (v := .ty "tuple") (by rfl) T.z_tuple (by decide +kernel) rfl) pa_nil))) pa_nil)))) (pss_cons (ps_if (PW.pt (pw_or (pt_cmpR op_ne (pe_callB call_isi (by rfl) T.z_isinstance (by decide +kernel) (pa_cons (pv 0) (pa_cons (pe_bltn (v := .ty "list") (by rfl) T.z_list (by decide +kernel) rfl) pa_nil))) (pe_callB call_isi (by rfl) T.z_isinstance (by decide +kernel) (pa_cons (pv 1) (pa_cons (pe_bltn (v := .ty "list") (by rfl) T.z_list (by decide +kernel) rfl) pa_nil))) (nomark _)) (pw_or1 (pt_cmpR op_ne (pe_callB call_isi (by rfl) T.z_isinstance (by decide +kernel) (pa_cons (pv 0) (pa_cons (pe_bltn (v := .ty "tuple") (by rfl) T.z_tuple (by decide +kernel) rfl) pa_nil))) (pe_callB call_isi (by rfl) T.z_isinstance (by decide +kernel) (pa_cons (pv 1) (pa_cons (pe_bltn (v := .ty "tuple") (by rfl) T.z_tuple (by decide +kernel) rfl) pa_nil))) (nomark _))))) pss_never pss_nil) (pss_one (ps_ret (pe_and (pe_cmpR op_eq (pe_callB call_len_seq (by rfl) T.z_len (by decide +kernel) (pa_cons (pv 0) pa_nil)) (pe_callB call_len_seq (by rfl) T.z_len (by decide +kernel) (pa_cons (pv 1) pa_nil)) (nomark _)) (pe_one (pe_callB (cr_all rfl) (by rfl) T.z_all (by decide +kernel) (pa_cons (pe_lc (own := [("_law_one", 2), ("_law_other", 3)]) (g := gTup K 2 (gCons (gName 2) (gCons (gName 3) gNil))) (tt := tYes) rfl scSame.nd (RZ.pi_zipA (by rfl) T.z_zip (pa_cons (pv 0) (pa_cons (pv 1) pa_nil))) (blkOk_by (N := nSame) (sc := defScope sSame) (by decide +kernel)) (fun _ _ _ _ _ => pg_tup rfl (pgs_cons (pg_name (i := 2) scSame.nd rfl (Or.inl rfl)) (pgs_cons (pg_name (i := 3) scSame.nd rfl (Or.inl rfl)) pgs_nil))) (fun _ _ _ _ _ => pts_nil) (fun _ _ _ _ _ => (pe_call GS (hr.mono (by omega)) rfl T.m_same T.k_same bS .nil pass0 (pa_cons (pv 2) (pa_cons (pv 3) pa_nil))))) pa_nil))))))) pss_nil) pss_never), ?_⟩
        refine ⟨_, rfl, (by show 2 ≤ sizeLine; decide), fun p np => ⟨.ref p2, p, [.ty "list", .ty "tuple"], _, _, _, rfl, upd_same, .cons (.ty _) (.cons (.ty _) (.nil)), .base (.tup (by exact same_new np _ _ g2)), (kitAny2 (a := "tuple") (b := "list") (c := "tuple") (r := false) (q := true) (by decide +kernel) (by decide +kernel)), _, rfl, ?_⟩⟩
        have e1 := same_new (o := .tup [.ty "list", .ty "tuple"]) np
        generalize upd H p (.tup [.ty "list", .ty "tuple"]) = H1 at e1
        refine iteT ?_
        refine ⟨_, rfl, .ref p1, .ty "list", _, _, _, rfl, .ty _, .base (.tup (e1 _ _ g1)), (kit_ty (a := "tuple") (b := "list") (r := false) (by decide +kernel)), _, rfl, .ref p2, .ty "list", _, _, _, rfl, .ty _, .base (.tup (e1 _ _ g2)), (kit_ty (a := "tuple") (b := "list") (r := false) (by decide +kernel)), rfl, _, rfl, ?_⟩
        refine iteNS rfl ?_
        refine ⟨_, rfl, .ref p1, .ty "tuple", _, _, _, rfl, .ty _, .base (.tup (e1 _ _ g1)), (kit_ty (a := "tuple") (b := "tuple") (r := true) (by decide +kernel)), _, rfl, .ref p2, .ty "tuple", _, _, _, rfl, .ty _, .base (.tup (e1 _ _ g2)), (kit_ty (a := "tuple") (b := "tuple") (r := true) (by decide +kernel)), rfl, _, rfl, ?_⟩
        refine iteNS rfl ?_
        refine ⟨_, rfl, p1, us, rfl, .inr (SqT.of (e1 _ _ g1)), _, rfl, p2, ws, rfl, .inr (SqT.of (e1 _ _ g2)), rfl, _, rfl, ?_⟩
        rw [decide_eq_true (show V.int (us.length : Int) = V.int (ws.length : Int) by rw [hlen])]
        refine iteT ?_
        refine ⟨_, rfl, _, rfl, p1, p2, us, ws, rfl, .inr ⟨SqT.of (e1 _ _ g1), SqT.of (e1 _ _ g2), fun D nD => ?_⟩⟩
        refine lc_it (walk_zipT hlen) (fun i H3 => H3 D = some (.lst (List.replicate i (.bl true))) ∧ Same H1 H3) ?_ ?_ ?_ ?_
        · exact ⟨upd_same, same_new nD⟩
        · rintro i H3 _ ⟨_, e3⟩
          exact ⟨SqT.of (e3 _ _ (e1 _ _ g1)), SqT.of (e3 _ _ (e1 _ _ g2))⟩
        · rintro i y H3 H3' hi ⟨hD, e3⟩ ⟨q, x1, x2, rfl, nq, e, hx1, hx2⟩
          subst e
          have e4 := same_new (o := .tup [x1, x2]) nq
          refine ⟨q, [x1, x2], rfl, SqT.of upd_same, rfl, x1, [x2], rfl, x2, [], rfl, rfl, rfl, ?_⟩
          unfold tYes
          refine iteT ?_
          obtain ⟨d1, hd1, rd1⟩ := Paired.get hp1 hx1
          obtain ⟨d2, hd2, rd2⟩ := Paired.get hp2 hx2
          rw [hd1] at hd2
          cases hd2
          have e34 : Same H (upd H3 q (.tup [x1, x2])) := e1.trans (e3.trans e4)
          refine ⟨_, rfl, _, rfl, x1, x2, d1, S, S', rfl, rd1.kp (Kp.of e34), rd2.kp (Kp.of e34), by omega, fun H4 e5 => ⟨_, e5 _ _ (e4 _ _ hD), ?_, ?_, ?_⟩⟩
          · rw [List.length_replicate]
            exact Nat.lt_of_le_of_lt (by omega : i ≤ 2) (by decide)
          · rw [upd_same, List.replicate_succ']
          · exact fun c o z => by
              rw [upd_ne (ne_of_none z nD)]
              exact e5 _ _ (e4 _ _ (e3 _ _ z))
        · rintro H3 ⟨hD, e3⟩
          refine ⟨D, List.replicate us.length true, rfl, SqL.of (by rw [List.map_replicate]; exact hD), ?_⟩
          rw [show (List.replicate us.length true).all id = true by simp]
          exact k H3 (e1.trans e3)
      | dct x =>
        obtain ⟨p1, u1, rfl, ns1, g1, hq1, hp1⟩ := id r1
        obtain ⟨p2, u2, rfl, ns2, g2, hq2, hp2⟩ := id r2
        refine ⟨_, (pss_cons (ps_if (pt_val (pe_callB call_isiT (by rfl) T.z_isinstance (by decide +kernel) (pa_cons (pv 1) (pa_cons (pe_tup (pa_cons (pe_bltn (v := .ty "list") (by rfl) T.z_list (by decide +kernel) rfl) (pa_cons (pe_bltn (v := .ty "tuple") (by rfl) T.z_tuple (by decide +kernel) rfl) pa_nil))) pa_nil)))) pss_never pss_nil) (pss_cons (ps_if (pt_val (pe_callB call_isi (by rfl) T.z_isinstance (by decide +kernel) (pa_cons (pv 1) (pa_cons (pe_bltn (v := .ty "int") (by rfl) T.z_int (by decide +kernel) rfl) pa_nil)))) pss_never pss_nil) (pss_one (ps_ret (pe_and (pe_cmpR (op_dct hr.units) (pv 0) (pv 1) (nomark _)) (pe_one (pe_cmpR op_isBl (pe_callB call_isiT (by rfl) T.z_isinstance (by decide +kernel) (pa_cons (pv 0) (pa_cons (pe_tup (pa_cons (pe_bltn (v := .ty "int") (by rfl) T.z_int (by decide +kernel) rfl) (pa_cons (pe_bltn (v := .ty "list") (by rfl) T.z_list (by decide +kernel) rfl) (pa_cons (pe_bltn (v := .ty "tuple") (by rfl) T.z_tuple (by decide +kernel) rfl) pa_nil)))) pa_nil))) pe_bl (nomark _)))))))), ?_⟩
        refine ⟨_, rfl, (by show 2 ≤ sizeLine; decide), fun p np => ⟨.ref p2, p, [.ty "list", .ty "tuple"], _, _, _, rfl, upd_same, .cons (.ty _) (.cons (.ty _) (.nil)), .base (.dK (by exact same_new np _ _ g2)), (kitAny2 (a := "dict") (b := "list") (c := "tuple") (r := false) (q := false) (by decide +kernel) (by decide +kernel)), _, rfl, ?_⟩⟩
        have e1 := same_new (o := .tup [.ty "list", .ty "tuple"]) np
        generalize upd H p (.tup [.ty "list", .ty "tuple"]) = H1 at e1
        refine iteF ?_
        refine ⟨_, rfl, .ref p2, .ty "int", _, _, _, rfl, .ty _, .base (.dK (e1 _ _ g2)), (kit_ty (a := "dict") (b := "int") (r := false) (by decide +kernel)), _, rfl, ?_⟩
        refine iteF ?_
        refine ⟨_, rfl, _, rfl, n + 1, S, S', x, hn, r1.kp (Kp.of e1), r2.kp (Kp.of e1), _, rfl, ?_⟩
        refine iteT ?_
        refine ⟨_, rfl, (by show 3 ≤ sizeLine; decide), fun p np => ⟨.ref p1, p, [.ty "int", .ty "list", .ty "tuple"], _, _, _, rfl, upd_same, .cons (.ty _) (.cons (.ty _) (.cons (.ty _) (.nil))), .base (.dK (by exact same_new np _ _ (e1 _ _ g1))), (kitAny3 (a := "dict") (b := "int") (c := "list") (d := "tuple") (r := false) (q := false) (p := false) (by decide +kernel) (by decide +kernel) (by decide +kernel)), false, false, rfl, rfl, ?_⟩⟩
        exact k _ (e1.trans (same_new np))
end
end L2.E5

namespace L2.E5
open PySem PySem.Spec PyProof.Rows L2.Vx
section
variable {X : Cx} {pins : List (Addr × Obj)} {σ : St} {H : Hp} {s : Shared} {e e1 e2 : Expr} {es : List Expr} {t t' : TE} {ta ta' : TA} {pos p : Pos} {x : Str} {C : Addr}
theorem PE.imp (h : PE X e t) (k : ∀ σ H Q, t' σ H Q → t σ H Q) : PE X e t' := ⟨fun pins s σ H Q I w => h.run pins s σ H Q I (k σ H Q w)⟩
theorem PA.imp (h : PA X es ta) (k : ∀ σ H Q, ta' σ H Q → ta σ H Q) : PA X es ta' := ⟨fun pos pins s σ H Q I w => h.run pos pins s σ H Q I (k σ H Q w)⟩
/-- C() of a class without an __init__ of its own -/
theorem pe_exc0 (q : PySem.W.excIn X.K C [.type "ValueError", .type "Exception", .type "BaseException", .type "object"] "ValueError.__new__" = true) (gC : X.mg x = some (.ref C)) (kC : PySem.W.keepIn X.K (.ref C) = true) (hg : Gl X x) (hdb : (x == ("__debug__" : Str)) = false := by decide) :
    PE X (.Call (.Name x p) [] [] pos) (fun σ H Q => ∀ a, H a = none → Q (.ref a) (upd H a (exo a C none))) := by
  refine ⟨fun pins s σ H Q I h => ?_⟩
  refine wpAny_Call_Name_kw (ld_glob I hg gC ?_ hdb)
  refine PySem.W.callWith_K0 I.kIn kC ?_
  obtain ⟨bm, N, nm, qn, bs, hdct, sn, sub, ab, col, dd, k0, k1, k2, k3, k5, mN, hC, hN, hni, T⟩ := exc_obj I.kIn q
  refine wpAny_call_exc_subT F.excBase_ValueError T hC hN hni (fun h' a hm => ?_) (by show 0 ≤ sizeLine; exact Nat.zero_le _)
  have hn : H a = none := I.hok.gone hm.new
  obtain ⟨t, ht, _, _⟩ := hm.there
  exact ⟨.ref a, _, I.laidN hm.keeps hm.new hn (exo_ok ht), rfl, h a hn⟩
end
/-! ### what a made error is -/
/-- an exception of the class at C stands at a -/
def ErAt (H : Hp) (a C : Addr) : Prop := ∃ d : Option Addr, H a = some (exo a C d) ∧ ∀ d', d = some d' → ∃ fs, H d' = some (exd d' fs)
theorem ErAt.same {H H' : Hp} {a C : Addr} (h : ErAt H a C) (e : Same H H') : ErAt H' a C := by
  obtain ⟨d, h1, h2⟩ := h
  exact ⟨d, e _ _ h1, fun d' q => (h2 d' q).imp fun fs z => e _ _ z⟩
/-- v is a pair of an exception of the class at C and of one -/
def PP (H : Hp) (one : V) (v : V) (C : Addr) : Prop := ∃ t a, v = .ref t ∧ H t = some (.tup [.ref a, one]) ∧ ErAt H a C
theorem PP.same {H H' : Hp} {one v : V} {C : Addr} (h : PP H one v C) (e : Same H H') : PP H' one v C := by
  obtain ⟨t, a, h1, h2, h3⟩ := h
  exact ⟨t, a, h1, e _ _ h2, h3.same e⟩
/-- __init__(self, f) -/
def spEI (f : Str) (C : Addr) : Sp := fun vs H Q _ => ∃ (a : Addr) (v : V), vs = [.ref a, v] ∧ H a = some (exo a C none) ∧
  ∀ dx, H dx = none → dx ≠ a → Q .non (upd (upd H dx (exd dx [(f, v)])) a (exo a C (some dx)))
/-- a class of errors as it stands behind the top -/
structure Er (K : PySem.W.Frag) (mg : Str → Option Value) (nm : Str) (C : Addr) : Prop where
  gC : mg nm = some (.ref C)
  er : ErC K C
  mo : PySem.W.mroIn K C (.type "object") = some true
  ic : PySem.W.isClsIn K C = true
/-- one that has an __init__ of its own -/
structure ErI (K : PySem.W.Frag) (mg : Str → Option Value) (nm f : Str) (C fI : Addr) : Prop extends Er K mg nm C where
  iC : PySem.W.findIn K (.ref C) "__init__" = some (some (.ref fI))
  tI : PySem.W.typeIn K (.ref fI) = some (.type "function")
  no : PySem.W.findIn K (.ref C) f = some none
  hd : PySem.W.hasDictIn K C = true
/-- one that has none -/
structure Er0 (K : PySem.W.Frag) (mg : Str → Option Value) (nm : Str) (C : Addr) : Prop extends Er K mg nm C where
  ex : PySem.W.excIn K C [.type "ValueError", .type "Exception", .type "BaseException", .type "object"] "ValueError.__new__" = true
/-- how its two parameters are bound: by place, by name -/
structure Bd (K : PySem.W.Frag) (fd : FuncData) (f : Str) : Prop where
  pl : Binds K fd ["self", f] []
  nm : ∀ (s' : Shared) (us ws : List Value), us.length = 1 → ws.length = ([f] : List Str).length → K.In s'.heap → BindsTo s' fd ⟨us, ([f] : List Str).zip ws⟩ (([("self" : Str), f]).zip (us ++ ws))
def tMade (i : Nat) (C : Addr) : TE := fun σ H Q => ∃ v, σ[i]? = some (some v) ∧ ∀ a H', Same H H' → ErAt H' a C → Q (.ref a) H'
def tOne (i : Nat) : TE := fun σ H Q => ∃ v, σ[i]? = some (some v) ∧ ∀ H', Same H H' → Q v H'
def tPair (i : Nat) (C : Addr) : TE := fun σ H Q => ∃ v, σ[i]? = some (some v) ∧ ∀ u H', Same H H' → PP H' v u C → Q u H'
def tPairs (i : Nat) (Cs : List Addr) : TA := fun σ H Q => ∃ v, σ[i]? = some (some v) ∧ ∀ us H', Same H H' → Paired (PP H' v) us Cs → Q us H'
def tOnes (i n : Nat) : TA := fun σ H Q => ∃ v, σ[i]? = some (some v) ∧ ∀ H', Same H H' → Q (List.replicate n v) H'
section
variable {X : Cx} {e e1 e2 : Expr} {es : List Expr} {pos p p2 kp : Pos} {nm f : Str} {C fI : Addr} {fd : FuncData} {i n : Nat} {Cs : List Addr}
theorem ei_ok {v : V} {H : Hp} {R : VK} {C a : Addr} {f : Str} (na : H a = none) (h : ∀ dx H', Same H H' → H' a = some (exo a C (some dx)) → H' dx = some (exd dx [(f, v)]) → R .non H') : spEI f C [.ref a, v] (upd H a (exo a C none)) R NoX :=
  ⟨a, v, rfl, upd_same, fun dx n ne => by
    have nd : H dx = none := by rw [upd_ne ne] at n; exact n
    refine h dx _ (fun c o z => ?_) upd_same (by rw [upd_ne ne]; exact upd_same)
    rw [upd_ne (ne_of_none z na), upd_ne (ne_of_none z nd), upd_ne (ne_of_none z na)]
    exact z⟩
/-- C(one), by place -/
theorem pe_made (E : ErI X.K X.mg nm f C fI) (G : FnOk X.prog X.w X.K X.mg X.base CX0 1 fI fd ["self", f] (spEI f C)) (hr : Room 2 X.A) (b : Bd X.K fd f) (hg : Gl X nm) (hs : PE X e (tVar i))
    (hdb : (nm == ("__debug__" : Str)) = false := by decide) (he : starEach [e] X.env = (false, eval e X.env) :: starEach [] X.env := by rfl) (hpl : (backTo pos (starEach [] X.env)).any (·.1) = false := by rfl) :
    PE X (.Call (.Name nm p) [e] [] pos) (tMade i C) :=
  PE.imp (pe_mkv E.er.ox E.iC E.tI G hr b.pl pass0 hg E.gC (pa_cons hs pa_nil he) hdb he hpl) fun σ H Q h => by
    obtain ⟨v, hv, k⟩ := h
    refine ⟨v, hv, by show 1 ≤ 1000; decide, fun a na => ei_ok na fun dx H' e g1 g2 => ⟨rfl, k a H' e ⟨some dx, g1, fun d' q => by cases q; exact ⟨_, g2⟩⟩⟩⟩
theorem pe_fld1 {t : TE} {ks : List Keyword} {ar : List Expr} (E : ErI X.K X.mg nm f C fI)
    (hm : PE X (.Call (.Name nm p) ar ks pos) t) (ht : ∀ σ H Q, tOne i σ H Q → t σ H fun x H1 => ∃ (a C d : Addr) (fs : List (Str × V)) (v : V), x = .ref a ∧ ErC X.K C ∧ PySem.W.findIn X.K (.ref C) f = some none ∧ PySem.W.hasDictIn X.K C = true ∧
      H1 a = some (exo a C (some d)) ∧ H1 d = some (exd d fs) ∧ fs.lookup f = some v ∧ Q v H1)
    (hb : attributeBase (.Call (.Name nm p) ar ks pos) f X.env (eval (.Call (.Name nm p) ar ks pos) X.env) = eval (.Call (.Name nm p) ar ks pos) X.env := by rfl) :
    PE X (.Attribute (.Call (.Name nm p) ar ks pos) f p2) (tOne i) := PE.imp (pe_xf hm hb) ht
theorem one_read (E : ErI X.K X.mg nm f C fI) {σ : St} {H : Hp} {Q : VK} (h : tOne i σ H Q) : tMkV C (spEI f C) (tCons (tVar i) tNil) σ H fun x H1 => ∃ (a C d : Addr) (fs : List (Str × V)) (v : V), x = .ref a ∧ ErC X.K C ∧ PySem.W.findIn X.K (.ref C) f = some none ∧ PySem.W.hasDictIn X.K C = true ∧
      H1 a = some (exo a C (some d)) ∧ H1 d = some (exd d fs) ∧ fs.lookup f = some v ∧ Q v H1 := by
  obtain ⟨v, hv, k⟩ := h
  refine ⟨v, hv, by show 1 ≤ 1000; decide, fun a na => ?_⟩
  refine ei_ok na fun dx H' e g1 g2 => ⟨rfl, ?_⟩
  exact ⟨a, C, dx, _, v, rfl, E.er, E.no, E.hd, g1, g2, by simp [List.lookup], k H' e⟩
/-- C(one).f -/
theorem pe_fld (E : ErI X.K X.mg nm f C fI) (G : FnOk X.prog X.w X.K X.mg X.base CX0 1 fI fd ["self", f] (spEI f C)) (hr : Room 2 X.A) (b : Bd X.K fd f) (hg : Gl X nm) (hs : PE X e (tVar i))
    (hdb : (nm == ("__debug__" : Str)) = false := by decide) (he : starEach [e] X.env = (false, eval e X.env) :: starEach [] X.env := by rfl) (hpl : (backTo pos (starEach [] X.env)).any (·.1) = false := by rfl)
    (hb : attributeBase (.Call (.Name nm p) [e] [] pos) f X.env (eval (.Call (.Name nm p) [e] [] pos) X.env) = eval (.Call (.Name nm p) [e] [] pos) X.env := by rfl) :
    PE X (.Attribute (.Call (.Name nm p) [e] [] pos) f p2) (tOne i) :=
  PE.imp (pe_xf (pe_mkv E.er.ox E.iC E.tI G hr b.pl pass0 hg E.gC (pa_cons hs pa_nil he) hdb he hpl) hb) fun _ _ _ h => one_read E h
/-- C(f=one).f -/
theorem pe_fldK (E : ErI X.K X.mg nm f C fI) (G : FnOk X.prog X.w X.K X.mg X.base CX0 1 fI fd ["self", f] (spEI f C)) (hr : Room 2 X.A) (b : Bd X.K fd f) (hg : Gl X nm) (hs : PE X e (tVar i))
    (hdb : (nm == ("__debug__" : Str)) = false := by decide)
    (hall : (backToKw pos (keywordEach [⟨some f, e, kp⟩] X.env)).all (·.1.isSome) = true := by rfl) (hks : (backToKw pos (keywordEach [⟨some f, e, kp⟩] X.env)).filterMap (·.1) = [f] := by rfl)
    (hpl : ((backTo pos (starEach [] X.env)).any (·.1) || (backToKw pos (keywordEach [⟨some f, e, kp⟩] X.env)).any (·.1.isNone)) = false := by rfl)
    (hb : attributeBase (.Call (.Name nm p) [] [⟨some f, e, kp⟩] pos) f X.env (eval (.Call (.Name nm p) [] [⟨some f, e, kp⟩] pos) X.env) = eval (.Call (.Name nm p) [] [⟨some f, e, kp⟩] pos) X.env := by rfl) :
    PE X (.Attribute (.Call (.Name nm p) [] [⟨some f, e, kp⟩] pos) f p2) (tOne i) :=
  PE.imp (pe_xf (pe_mkvK (ks := [f]) E.er.ox E.iC E.tI G hr pass0 hg E.gC (pk_cons hs pk_nil) b.nm rfl hall hks hdb hpl) hb) fun _ _ _ h => one_read E h
/-- C() -/
theorem pe_made0 {v : V} (E : Er0 X.K X.mg nm C) (hg : Gl X nm) (hdb : (nm == ("__debug__" : Str)) = false := by decide) : PE X (.Call (.Name nm p) [] [] pos) (tMade i C) :=
  PE.imp (pe_exc0 E.ex E.gC E.er.ox.kC hg hdb) fun σ H Q h => by
    obtain ⟨v, hv, k⟩ := h
    exact fun a na => k a _ (same_new na) ⟨none, upd_same, fun d' q => nomatch q⟩
theorem pe_name1 (h : PE X e (tVar i)) : PE X e (tOne i) := PE.imp h fun σ H Q k => by
  obtain ⟨v, hv, k⟩ := k
  exact ⟨v, hv, k H (Same.refl H)⟩
/-- (C(one), one again) -/
theorem pe_pair {k : Nat} (h1 : PE X e1 (tMade i C)) (h2 : PE X e2 (tOne i)) (hs : starEach [e1, e2] X.env = (false, eval e1 X.env) :: starEach [e2] X.env := by rfl) (hs2 : starEach [e2] X.env = (false, eval e2 X.env) :: starEach [] X.env := by rfl) :
    PE X (.Tuple [e1, e2] k pos) (tPair i C) :=
  PE.imp (pe_tup (pa_cons h1 (pa_cons h2 pa_nil hs2) hs)) fun σ H Q h => by
    obtain ⟨v, hv, k⟩ := h
    refine ⟨v, hv, fun a H1 e1 g1 => ⟨v, hv, fun H2 e2 => ⟨by show 2 ≤ sizeLine; decide, fun t nt => ?_⟩⟩⟩
    have e3 := same_new (o := .tup [.ref a, v]) nt
    exact k (.ref t) _ (e1.trans (e2.trans e3)) ⟨t, a, rfl, upd_same, (g1.same e2).same e3⟩
theorem pa_pair0 : PA X [] (tPairs i []) := PA.imp pa_nil fun σ H Q h => by
  obtain ⟨v, hv, k⟩ := h
  exact k [] H (Same.refl H) .nil
theorem pa_pair (h : PE X e (tPair i C)) (hr : PA X es (tPairs i Cs)) (hs : starEach (e :: es) X.env = (false, eval e X.env) :: starEach es X.env := by rfl) : PA X (e :: es) (tPairs i (C :: Cs)) :=
  PA.imp (pa_cons h hr hs) fun σ H Q h => by
    obtain ⟨v, hv, k⟩ := h
    exact ⟨v, hv, fun u H1 e1 g1 => ⟨v, hv, fun us H2 e2 g2 => k (u :: us) H2 (e1.trans e2) (.cons (g1.same e2) g2)⟩⟩
theorem pa_one0 : PA X [] (tOnes i 0) := PA.imp pa_nil fun σ H Q h => by
  obtain ⟨v, hv, k⟩ := h
  exact k H (Same.refl H)
theorem pa_one (h : PE X e (tOne i)) (hr : PA X es (tOnes i n)) (hs : starEach (e :: es) X.env = (false, eval e X.env) :: starEach es X.env := by rfl) : PA X (e :: es) (tOnes i (n + 1)) :=
  PA.imp (pa_cons h hr hs) fun σ H Q h => by
    obtain ⟨v, hv, k⟩ := h
    exact ⟨v, hv, fun H1 e1 => ⟨v, hv, fun H2 e2 => k H2 (e1.trans e2)⟩⟩
end
/-! ### isinstance against each class -/
/-- what isinstance answers for the classes at Cs, told apart by where they stand -/
structure Kits (K : PySem.W.Frag) (Cs : List Addr) : Prop where
  one : ∀ C ∈ Cs, ∀ D ∈ Cs, PySem.W.kitOne K (.ref C) (.ref D) = some (decide (C = D))
/-- slot i holds an exception of the class at C -/
def tIs (K : PySem.W.Frag) (i : Nat) (D : Addr) : TE := fun σ H Q => ∃ (a C : Addr), σ[i]? = some (some (.ref a)) ∧ ErAt H a C ∧ ErC K C ∧ PySem.W.mroIn K C (.type "object") = some true ∧ PySem.W.isClsIn K C = true ∧
  PySem.W.kitOne K (.ref C) (.ref D) = some (decide (C = D)) ∧ Q (.bl (decide (C = D))) H
def tIss (K : PySem.W.Frag) (i : Nat) (Ds : List Addr) : TA := fun σ H Q => ∃ (a C : Addr), σ[i]? = some (some (.ref a)) ∧ ErAt H a C ∧ ErC K C ∧ PySem.W.mroIn K C (.type "object") = some true ∧ PySem.W.isClsIn K C = true ∧
  (∀ D ∈ Ds, PySem.W.kitOne K (.ref C) (.ref D) = some (decide (C = D))) ∧ Q (Ds.map fun D => V.bl (decide (C = D))) H
section
variable {X : Cx} {e : Expr} {es : List Expr} {p pos pe : Pos} {nm : Str} {D : Addr} {Ds : List Addr} {i : Nat}
theorem pe_is (S : Spc X.K) (z : X.mg "isinstance" = none) (gD : X.mg nm = some (.ref D)) (hi : Gl X "isinstance") (hg : Gl X nm) (he : PE X e (tVar i)) (hdb : (nm == ("__debug__" : Str)) = false := by decide)
    (hs : starEach [e, .Name nm pe] X.env = (false, eval e X.env) :: starEach [.Name nm pe] X.env := by rfl) (hs2 : starEach [.Name nm pe] X.env = (false, eval (.Name nm pe) X.env) :: starEach [] X.env := by rfl)
    (hpl : (backTo pos (starEach [.Name nm pe] X.env)).any (·.1) = false := by rfl) :
    PE X (.Call (.Name "isinstance" p) [e, .Name nm pe] [] pos) (tIs X.K i D) :=
  PE.imp (pe_callB (call_xi S) hi z (by decide +kernel) (pa_cons he (pa_cons (pe_glob (v := .ref D) hg gD rfl hdb) pa_nil hs2) hs) (by decide) (by decide) hs hpl) fun σ H Q h => by
    obtain ⟨a, C, hv, ⟨d, g1, g2⟩, er, mo, ic, kt, q⟩ := h
    exact ⟨_, hv, a, C, d, .ref D, .ref D, _, rfl, .own D, er, mo, ic, g1, g2, kt, q⟩
theorem pa_is0 : PA X [] (tIss X.K i []) := PA.imp pa_nil fun σ H Q h => by
  obtain ⟨a, C, _, _, _, _, _, _, q⟩ := h
  exact q
theorem pa_is (h : PE X e (tIs X.K i D)) (hr : PA X es (tIss X.K i Ds)) (hs : starEach (e :: es) X.env = (false, eval e X.env) :: starEach es X.env := by rfl) : PA X (e :: es) (tIss X.K i (D :: Ds)) :=
  PA.imp (pa_cons h hr hs) fun σ H Q h => by
    obtain ⟨a, C, hv, g, er, mo, ic, kt, q⟩ := h
    exact ⟨a, C, hv, g, er, mo, ic, kt D List.mem_cons_self, a, C, hv, g, er, mo, ic, fun D' hD => kt D' (List.mem_cons_of_mem _ hD), q⟩
end
end L2.E5

namespace L2.E5
open PySem PySem.Spec PyProof.Rows L2.Vx
abbrev sFirst : Stmt := top 33
abbrev sBy : Stmt := top 34
abbrev sKinds : Stmt := top 35
section
variable {P : Program} {w : World} {K : PySem.W.Frag} {mg : Str → Option Value} {base : Heap}
theorem sc_0 : FnScope ["self", "index"] ["self", "index"] (defScope (inClass (top 2) 0)) := ⟨rfl, rfl, rfl, by decide +kernel, rfl, by decide +kernel, by decide +kernel⟩
theorem ei_0 {f C : Addr} {fd : FuncData} (F : Fun K "__init__" "BadColumns.__init__" (inClass (top 2) 0) f fd) (E : ErI K mg "BadColumns" "index" C f) : FnOk P w K mg base CX0 1 f fd ["self", "index"] (spEI "index" C) := by
  refine F.ok sc_0 (fun vs H Q E h => ?_) (fun cdv A outer s H vs Q E' hr h => ?_)
  · obtain ⟨a, v, rfl, _⟩ := h
    rfl
  · obtain ⟨a, v, rfl, ha, k⟩ := h
    refine ⟨_, pss_one (ps_ost (pv 0) (pv 1)), ?_⟩
    exact ⟨_, rfl, _, rfl, a, C, rfl, E.er.ox, E.no, .inl ⟨ha, k⟩⟩
theorem bd_0 {f : Addr} {fd : FuncData} (F : Fun K "__init__" "BadColumns.__init__" (inClass (top 2) 0) f fd) : Bd K fd "index" := by
  refine ⟨F.binds (ps := ["self", "index"]) fun _ _ _ _ _ _ us hl => match us, hl with | [_, _], _ => rfl, ?_⟩
  obtain ⟨oc, od, kV, doc, pm, an, cdv, ct, osl, rfl, lk, hcd⟩ := F.ex
  exact fun s us ws h1 h2 _ => match us, ws, h1, h2 with | [_], [_], _, _ => .of_eq rfl
theorem sc_1 : FnScope ["self", "name"] ["self", "name"] (defScope (inClass (top 3) 0)) := ⟨rfl, rfl, rfl, by decide +kernel, rfl, by decide +kernel, by decide +kernel⟩
theorem ei_1 {f C : Addr} {fd : FuncData} (F : Fun K "__init__" "NoColumn.__init__" (inClass (top 3) 0) f fd) (E : ErI K mg "NoColumn" "name" C f) : FnOk P w K mg base CX0 1 f fd ["self", "name"] (spEI "name" C) := by
  refine F.ok sc_1 (fun vs H Q E h => ?_) (fun cdv A outer s H vs Q E' hr h => ?_)
  · obtain ⟨a, v, rfl, _⟩ := h
    rfl
  · obtain ⟨a, v, rfl, ha, k⟩ := h
    refine ⟨_, pss_one (ps_ost (pv 0) (pv 1)), ?_⟩
    exact ⟨_, rfl, _, rfl, a, C, rfl, E.er.ox, E.no, .inl ⟨ha, k⟩⟩
theorem bd_1 {f : Addr} {fd : FuncData} (F : Fun K "__init__" "NoColumn.__init__" (inClass (top 3) 0) f fd) : Bd K fd "name" := by
  refine ⟨F.binds (ps := ["self", "name"]) fun _ _ _ _ _ _ us hl => match us, hl with | [_, _], _ => rfl, ?_⟩
  obtain ⟨oc, od, kV, doc, pm, an, cdv, ct, osl, rfl, lk, hcd⟩ := F.ex
  exact fun s us ws h1 h2 _ => match us, ws, h1, h2 with | [_], [_], _, _ => .of_eq rfl
theorem sc_2 : FnScope ["self", "number"] ["self", "number"] (defScope (inClass (top 4) 0)) := ⟨rfl, rfl, rfl, by decide +kernel, rfl, by decide +kernel, by decide +kernel⟩
theorem ei_2 {f C : Addr} {fd : FuncData} (F : Fun K "__init__" "BadNumber.__init__" (inClass (top 4) 0) f fd) (E : ErI K mg "BadNumber" "number" C f) : FnOk P w K mg base CX0 1 f fd ["self", "number"] (spEI "number" C) := by
  refine F.ok sc_2 (fun vs H Q E h => ?_) (fun cdv A outer s H vs Q E' hr h => ?_)
  · obtain ⟨a, v, rfl, _⟩ := h
    rfl
  · obtain ⟨a, v, rfl, ha, k⟩ := h
    refine ⟨_, pss_one (ps_ost (pv 0) (pv 1)), ?_⟩
    exact ⟨_, rfl, _, rfl, a, C, rfl, E.er.ox, E.no, .inl ⟨ha, k⟩⟩
theorem bd_2 {f : Addr} {fd : FuncData} (F : Fun K "__init__" "BadNumber.__init__" (inClass (top 4) 0) f fd) : Bd K fd "number" := by
  refine ⟨F.binds (ps := ["self", "number"]) fun _ _ _ _ _ _ us hl => match us, hl with | [_, _], _ => rfl, ?_⟩
  obtain ⟨oc, od, kV, doc, pm, an, cdv, ct, osl, rfl, lk, hcd⟩ := F.ex
  exact fun s us ws h1 h2 _ => match us, ws, h1, h2 with | [_], [_], _, _ => .of_eq rfl
theorem sc_3 : FnScope ["self", "number"] ["self", "number"] (defScope (inClass (top 5) 0)) := ⟨rfl, rfl, rfl, by decide +kernel, rfl, by decide +kernel, by decide +kernel⟩
theorem ei_3 {f C : Addr} {fd : FuncData} (F : Fun K "__init__" "BadRow.__init__" (inClass (top 5) 0) f fd) (E : ErI K mg "BadRow" "number" C f) : FnOk P w K mg base CX0 1 f fd ["self", "number"] (spEI "number" C) := by
  refine F.ok sc_3 (fun vs H Q E h => ?_) (fun cdv A outer s H vs Q E' hr h => ?_)
  · obtain ⟨a, v, rfl, _⟩ := h
    rfl
  · obtain ⟨a, v, rfl, ha, k⟩ := h
    refine ⟨_, pss_one (ps_ost (pv 0) (pv 1)), ?_⟩
    exact ⟨_, rfl, _, rfl, a, C, rfl, E.er.ox, E.no, .inl ⟨ha, k⟩⟩
theorem bd_3 {f : Addr} {fd : FuncData} (F : Fun K "__init__" "BadRow.__init__" (inClass (top 5) 0) f fd) : Bd K fd "number" := by
  refine ⟨F.binds (ps := ["self", "number"]) fun _ _ _ _ _ _ us hl => match us, hl with | [_, _], _ => rfl, ?_⟩
  obtain ⟨oc, od, kV, doc, pm, an, cdv, ct, osl, rfl, lk, hcd⟩ := F.ex
  exact fun s us ws h1 h2 _ => match us, ws, h1, h2 with | [_], [_], _, _ => .of_eq rfl
theorem sc_4 : FnScope ["self", "following"] ["self", "following"] (defScope (inClass (top 6) 0)) := ⟨rfl, rfl, rfl, by decide +kernel, rfl, by decide +kernel, by decide +kernel⟩
theorem ei_4 {f C : Addr} {fd : FuncData} (F : Fun K "__init__" "BadFollowing.__init__" (inClass (top 6) 0) f fd) (E : ErI K mg "BadFollowing" "following" C f) : FnOk P w K mg base CX0 1 f fd ["self", "following"] (spEI "following" C) := by
  refine F.ok sc_4 (fun vs H Q E h => ?_) (fun cdv A outer s H vs Q E' hr h => ?_)
  · obtain ⟨a, v, rfl, _⟩ := h
    rfl
  · obtain ⟨a, v, rfl, ha, k⟩ := h
    refine ⟨_, pss_one (ps_ost (pv 0) (pv 1)), ?_⟩
    exact ⟨_, rfl, _, rfl, a, C, rfl, E.er.ox, E.no, .inl ⟨ha, k⟩⟩
theorem bd_4 {f : Addr} {fd : FuncData} (F : Fun K "__init__" "BadFollowing.__init__" (inClass (top 6) 0) f fd) : Bd K fd "following" := by
  refine ⟨F.binds (ps := ["self", "following"]) fun _ _ _ _ _ _ us hl => match us, hl with | [_, _], _ => rfl, ?_⟩
  obtain ⟨oc, od, kV, doc, pm, an, cdv, ct, osl, rfl, lk, hcd⟩ := F.ex
  exact fun s us ws h1 h2 _ => match us, ws, h1, h2 with | [_], [_], _, _ => .of_eq rfl
theorem sc_5 : FnScope ["self", "number"] ["self", "number"] (defScope (inClass (top 7) 0)) := ⟨rfl, rfl, rfl, by decide +kernel, rfl, by decide +kernel, by decide +kernel⟩
theorem ei_5 {f C : Addr} {fd : FuncData} (F : Fun K "__init__" "NoRow.__init__" (inClass (top 7) 0) f fd) (E : ErI K mg "NoRow" "number" C f) : FnOk P w K mg base CX0 1 f fd ["self", "number"] (spEI "number" C) := by
  refine F.ok sc_5 (fun vs H Q E h => ?_) (fun cdv A outer s H vs Q E' hr h => ?_)
  · obtain ⟨a, v, rfl, _⟩ := h
    rfl
  · obtain ⟨a, v, rfl, ha, k⟩ := h
    refine ⟨_, pss_one (ps_ost (pv 0) (pv 1)), ?_⟩
    exact ⟨_, rfl, _, rfl, a, C, rfl, E.er.ox, E.no, .inl ⟨ha, k⟩⟩
theorem bd_5 {f : Addr} {fd : FuncData} (F : Fun K "__init__" "NoRow.__init__" (inClass (top 7) 0) f fd) : Bd K fd "number" := by
  refine ⟨F.binds (ps := ["self", "number"]) fun _ _ _ _ _ _ us hl => match us, hl with | [_, _], _ => rfl, ?_⟩
  obtain ⟨oc, od, kV, doc, pm, an, cdv, ct, osl, rfl, lk, hcd⟩ := F.ex
  exact fun s us ws h1 h2 _ => match us, ws, h1, h2 with | [_], [_], _, _ => .of_eq rfl
theorem sc_6 : FnScope ["self", "given"] ["self", "given"] (defScope (inClass (top 8) 0)) := ⟨rfl, rfl, rfl, by decide +kernel, rfl, by decide +kernel, by decide +kernel⟩
theorem ei_6 {f C : Addr} {fd : FuncData} (F : Fun K "__init__" "BadLook.__init__" (inClass (top 8) 0) f fd) (E : ErI K mg "BadLook" "given" C f) : FnOk P w K mg base CX0 1 f fd ["self", "given"] (spEI "given" C) := by
  refine F.ok sc_6 (fun vs H Q E h => ?_) (fun cdv A outer s H vs Q E' hr h => ?_)
  · obtain ⟨a, v, rfl, _⟩ := h
    rfl
  · obtain ⟨a, v, rfl, ha, k⟩ := h
    refine ⟨_, pss_one (ps_ost (pv 0) (pv 1)), ?_⟩
    exact ⟨_, rfl, _, rfl, a, C, rfl, E.er.ox, E.no, .inl ⟨ha, k⟩⟩
theorem bd_6 {f : Addr} {fd : FuncData} (F : Fun K "__init__" "BadLook.__init__" (inClass (top 8) 0) f fd) : Bd K fd "given" := by
  refine ⟨F.binds (ps := ["self", "given"]) fun _ _ _ _ _ _ us hl => match us, hl with | [_, _], _ => rfl, ?_⟩
  obtain ⟨oc, od, kV, doc, pm, an, cdv, ct, osl, rfl, lk, hcd⟩ := F.ex
  exact fun s us ws h1 h2 _ => match us, ws, h1, h2 with | [_], [_], _, _ => .of_eq rfl
theorem sc_8 : FnScope ["self", "part"] ["self", "part"] (defScope (inClass (top 10) 0)) := ⟨rfl, rfl, rfl, by decide +kernel, rfl, by decide +kernel, by decide +kernel⟩
theorem ei_8 {f C : Addr} {fd : FuncData} (F : Fun K "__init__" "BadStatement.__init__" (inClass (top 10) 0) f fd) (E : ErI K mg "BadStatement" "part" C f) : FnOk P w K mg base CX0 1 f fd ["self", "part"] (spEI "part" C) := by
  refine F.ok sc_8 (fun vs H Q E h => ?_) (fun cdv A outer s H vs Q E' hr h => ?_)
  · obtain ⟨a, v, rfl, _⟩ := h
    rfl
  · obtain ⟨a, v, rfl, ha, k⟩ := h
    refine ⟨_, pss_one (ps_ost (pv 0) (pv 1)), ?_⟩
    exact ⟨_, rfl, _, rfl, a, C, rfl, E.er.ox, E.no, .inl ⟨ha, k⟩⟩
theorem bd_8 {f : Addr} {fd : FuncData} (F : Fun K "__init__" "BadStatement.__init__" (inClass (top 10) 0) f fd) : Bd K fd "part" := by
  refine ⟨F.binds (ps := ["self", "part"]) fun _ _ _ _ _ _ us hl => match us, hl with | [_, _], _ => rfl, ?_⟩
  obtain ⟨oc, od, kV, doc, pm, an, cdv, ct, osl, rfl, lk, hcd⟩ := F.ex
  exact fun s us ws h1 h2 _ => match us, ws, h1, h2 with | [_], [_], _, _ => .of_eq rfl
theorem sc_9 : FnScope ["self", "part"] ["self", "part"] (defScope (inClass (top 11) 0)) := ⟨rfl, rfl, rfl, by decide +kernel, rfl, by decide +kernel, by decide +kernel⟩
theorem ei_9 {f C : Addr} {fd : FuncData} (F : Fun K "__init__" "BadTrigger.__init__" (inClass (top 11) 0) f fd) (E : ErI K mg "BadTrigger" "part" C f) : FnOk P w K mg base CX0 1 f fd ["self", "part"] (spEI "part" C) := by
  refine F.ok sc_9 (fun vs H Q E h => ?_) (fun cdv A outer s H vs Q E' hr h => ?_)
  · obtain ⟨a, v, rfl, _⟩ := h
    rfl
  · obtain ⟨a, v, rfl, ha, k⟩ := h
    refine ⟨_, pss_one (ps_ost (pv 0) (pv 1)), ?_⟩
    exact ⟨_, rfl, _, rfl, a, C, rfl, E.er.ox, E.no, .inl ⟨ha, k⟩⟩
theorem bd_9 {f : Addr} {fd : FuncData} (F : Fun K "__init__" "BadTrigger.__init__" (inClass (top 11) 0) f fd) : Bd K fd "part" := by
  refine ⟨F.binds (ps := ["self", "part"]) fun _ _ _ _ _ _ us hl => match us, hl with | [_, _], _ => rfl, ?_⟩
  obtain ⟨oc, od, kV, doc, pm, an, cdv, ct, osl, rfl, lk, hcd⟩ := F.ex
  exact fun s us ws h1 h2 _ => match us, ws, h1, h2 with | [_], [_], _, _ => .of_eq rfl
theorem sc_10 : FnScope ["self", "index"] ["self", "index"] (defScope (inClass (top 12) 0)) := ⟨rfl, rfl, rfl, by decide +kernel, rfl, by decide +kernel, by decide +kernel⟩
theorem ei_10 {f C : Addr} {fd : FuncData} (F : Fun K "__init__" "BadScript.__init__" (inClass (top 12) 0) f fd) (E : ErI K mg "BadScript" "index" C f) : FnOk P w K mg base CX0 1 f fd ["self", "index"] (spEI "index" C) := by
  refine F.ok sc_10 (fun vs H Q E h => ?_) (fun cdv A outer s H vs Q E' hr h => ?_)
  · obtain ⟨a, v, rfl, _⟩ := h
    rfl
  · obtain ⟨a, v, rfl, ha, k⟩ := h
    refine ⟨_, pss_one (ps_ost (pv 0) (pv 1)), ?_⟩
    exact ⟨_, rfl, _, rfl, a, C, rfl, E.er.ox, E.no, .inl ⟨ha, k⟩⟩
theorem bd_10 {f : Addr} {fd : FuncData} (F : Fun K "__init__" "BadScript.__init__" (inClass (top 12) 0) f fd) : Bd K fd "index" := by
  refine ⟨F.binds (ps := ["self", "index"]) fun _ _ _ _ _ _ us hl => match us, hl with | [_, _], _ => rfl, ?_⟩
  obtain ⟨oc, od, kV, doc, pm, an, cdv, ct, osl, rfl, lk, hcd⟩ := F.ex
  exact fun s us ws h1 h2 _ => match us, ws, h1, h2 with | [_], [_], _, _ => .of_eq rfl
theorem sc_11 : FnScope ["self", "index"] ["self", "index"] (defScope (inClass (top 13) 0)) := ⟨rfl, rfl, rfl, by decide +kernel, rfl, by decide +kernel, by decide +kernel⟩
theorem ei_11 {f C : Addr} {fd : FuncData} (F : Fun K "__init__" "NoStatement.__init__" (inClass (top 13) 0) f fd) (E : ErI K mg "NoStatement" "index" C f) : FnOk P w K mg base CX0 1 f fd ["self", "index"] (spEI "index" C) := by
  refine F.ok sc_11 (fun vs H Q E h => ?_) (fun cdv A outer s H vs Q E' hr h => ?_)
  · obtain ⟨a, v, rfl, _⟩ := h
    rfl
  · obtain ⟨a, v, rfl, ha, k⟩ := h
    refine ⟨_, pss_one (ps_ost (pv 0) (pv 1)), ?_⟩
    exact ⟨_, rfl, _, rfl, a, C, rfl, E.er.ox, E.no, .inl ⟨ha, k⟩⟩
theorem bd_11 {f : Addr} {fd : FuncData} (F : Fun K "__init__" "NoStatement.__init__" (inClass (top 13) 0) f fd) : Bd K fd "index" := by
  refine ⟨F.binds (ps := ["self", "index"]) fun _ _ _ _ _ _ us hl => match us, hl with | [_, _], _ => rfl, ?_⟩
  obtain ⟨oc, od, kV, doc, pm, an, cdv, ct, osl, rfl, lk, hcd⟩ := F.ex
  exact fun s us ws h1 h2 _ => match us, ws, h1, h2 with | [_], [_], _, _ => .of_eq rfl
theorem sc_12 : FnScope ["self", "index"] ["self", "index"] (defScope (inClass (top 14) 0)) := ⟨rfl, rfl, rfl, by decide +kernel, rfl, by decide +kernel, by decide +kernel⟩
theorem ei_12 {f C : Addr} {fd : FuncData} (F : Fun K "__init__" "NotPlain.__init__" (inClass (top 14) 0) f fd) (E : ErI K mg "NotPlain" "index" C f) : FnOk P w K mg base CX0 1 f fd ["self", "index"] (spEI "index" C) := by
  refine F.ok sc_12 (fun vs H Q E h => ?_) (fun cdv A outer s H vs Q E' hr h => ?_)
  · obtain ⟨a, v, rfl, _⟩ := h
    rfl
  · obtain ⟨a, v, rfl, ha, k⟩ := h
    refine ⟨_, pss_one (ps_ost (pv 0) (pv 1)), ?_⟩
    exact ⟨_, rfl, _, rfl, a, C, rfl, E.er.ox, E.no, .inl ⟨ha, k⟩⟩
theorem bd_12 {f : Addr} {fd : FuncData} (F : Fun K "__init__" "NotPlain.__init__" (inClass (top 14) 0) f fd) : Bd K fd "index" := by
  refine ⟨F.binds (ps := ["self", "index"]) fun _ _ _ _ _ _ us hl => match us, hl with | [_, _], _ => rfl, ?_⟩
  obtain ⟨oc, od, kV, doc, pm, an, cdv, ct, osl, rfl, lk, hcd⟩ := F.ex
  exact fun s us ws h1 h2 _ => match us, ws, h1, h2 with | [_], [_], _, _ => .of_eq rfl
theorem sc_13 : FnScope ["self", "index"] ["self", "index"] (defScope (inClass (top 15) 0)) := ⟨rfl, rfl, rfl, by decide +kernel, rfl, by decide +kernel, by decide +kernel⟩
theorem ei_13 {f C : Addr} {fd : FuncData} (F : Fun K "__init__" "BadDealings.__init__" (inClass (top 15) 0) f fd) (E : ErI K mg "BadDealings" "index" C f) : FnOk P w K mg base CX0 1 f fd ["self", "index"] (spEI "index" C) := by
  refine F.ok sc_13 (fun vs H Q E h => ?_) (fun cdv A outer s H vs Q E' hr h => ?_)
  · obtain ⟨a, v, rfl, _⟩ := h
    rfl
  · obtain ⟨a, v, rfl, ha, k⟩ := h
    refine ⟨_, pss_one (ps_ost (pv 0) (pv 1)), ?_⟩
    exact ⟨_, rfl, _, rfl, a, C, rfl, E.er.ox, E.no, .inl ⟨ha, k⟩⟩
theorem bd_13 {f : Addr} {fd : FuncData} (F : Fun K "__init__" "BadDealings.__init__" (inClass (top 15) 0) f fd) : Bd K fd "index" := by
  refine ⟨F.binds (ps := ["self", "index"]) fun _ _ _ _ _ _ us hl => match us, hl with | [_, _], _ => rfl, ?_⟩
  obtain ⟨oc, od, kV, doc, pm, an, cdv, ct, osl, rfl, lk, hcd⟩ := F.ex
  exact fun s us ws h1 h2 _ => match us, ws, h1, h2 with | [_], [_], _, _ => .of_eq rfl
theorem sc_14 : FnScope ["self", "level"] ["self", "level"] (defScope (inClass (top 16) 0)) := ⟨rfl, rfl, rfl, by decide +kernel, rfl, by decide +kernel, by decide +kernel⟩
theorem ei_14 {f C : Addr} {fd : FuncData} (F : Fun K "__init__" "BadLevel.__init__" (inClass (top 16) 0) f fd) (E : ErI K mg "BadLevel" "level" C f) : FnOk P w K mg base CX0 1 f fd ["self", "level"] (spEI "level" C) := by
  refine F.ok sc_14 (fun vs H Q E h => ?_) (fun cdv A outer s H vs Q E' hr h => ?_)
  · obtain ⟨a, v, rfl, _⟩ := h
    rfl
  · obtain ⟨a, v, rfl, ha, k⟩ := h
    refine ⟨_, pss_one (ps_ost (pv 0) (pv 1)), ?_⟩
    exact ⟨_, rfl, _, rfl, a, C, rfl, E.er.ox, E.no, .inl ⟨ha, k⟩⟩
theorem bd_14 {f : Addr} {fd : FuncData} (F : Fun K "__init__" "BadLevel.__init__" (inClass (top 16) 0) f fd) : Bd K fd "level" := by
  refine ⟨F.binds (ps := ["self", "level"]) fun _ _ _ _ _ _ us hl => match us, hl with | [_, _], _ => rfl, ?_⟩
  obtain ⟨oc, od, kV, doc, pm, an, cdv, ct, osl, rfl, lk, hcd⟩ := F.ex
  exact fun s us ws h1 h2 _ => match us, ws, h1, h2 with | [_], [_], _, _ => .of_eq rfl
theorem sc_15 : FnScope ["self", "order"] ["self", "order"] (defScope (inClass (top 17) 0)) := ⟨rfl, rfl, rfl, by decide +kernel, rfl, by decide +kernel, by decide +kernel⟩
theorem ei_15 {f C : Addr} {fd : FuncData} (F : Fun K "__init__" "BadOrder.__init__" (inClass (top 17) 0) f fd) (E : ErI K mg "BadOrder" "order" C f) : FnOk P w K mg base CX0 1 f fd ["self", "order"] (spEI "order" C) := by
  refine F.ok sc_15 (fun vs H Q E h => ?_) (fun cdv A outer s H vs Q E' hr h => ?_)
  · obtain ⟨a, v, rfl, _⟩ := h
    rfl
  · obtain ⟨a, v, rfl, ha, k⟩ := h
    refine ⟨_, pss_one (ps_ost (pv 0) (pv 1)), ?_⟩
    exact ⟨_, rfl, _, rfl, a, C, rfl, E.er.ox, E.no, .inl ⟨ha, k⟩⟩
theorem bd_15 {f : Addr} {fd : FuncData} (F : Fun K "__init__" "BadOrder.__init__" (inClass (top 17) 0) f fd) : Bd K fd "order" := by
  refine ⟨F.binds (ps := ["self", "order"]) fun _ _ _ _ _ _ us hl => match us, hl with | [_, _], _ => rfl, ?_⟩
  obtain ⟨oc, od, kV, doc, pm, an, cdv, ct, osl, rfl, lk, hcd⟩ := F.ex
  exact fun s us ws h1 h2 _ => match us, ws, h1, h2 with | [_], [_], _, _ => .of_eq rfl
theorem sc_16 : FnScope ["self", "word"] ["self", "word"] (defScope (inClass (top 18) 0)) := ⟨rfl, rfl, rfl, by decide +kernel, rfl, by decide +kernel, by decide +kernel⟩
theorem ei_16 {f C : Addr} {fd : FuncData} (F : Fun K "__init__" "BadWord.__init__" (inClass (top 18) 0) f fd) (E : ErI K mg "BadWord" "word" C f) : FnOk P w K mg base CX0 1 f fd ["self", "word"] (spEI "word" C) := by
  refine F.ok sc_16 (fun vs H Q E h => ?_) (fun cdv A outer s H vs Q E' hr h => ?_)
  · obtain ⟨a, v, rfl, _⟩ := h
    rfl
  · obtain ⟨a, v, rfl, ha, k⟩ := h
    refine ⟨_, pss_one (ps_ost (pv 0) (pv 1)), ?_⟩
    exact ⟨_, rfl, _, rfl, a, C, rfl, E.er.ox, E.no, .inl ⟨ha, k⟩⟩
theorem bd_16 {f : Addr} {fd : FuncData} (F : Fun K "__init__" "BadWord.__init__" (inClass (top 18) 0) f fd) : Bd K fd "word" := by
  refine ⟨F.binds (ps := ["self", "word"]) fun _ _ _ _ _ _ us hl => match us, hl with | [_, _], _ => rfl, ?_⟩
  obtain ⟨oc, od, kV, doc, pm, an, cdv, ct, osl, rfl, lk, hcd⟩ := F.ex
  exact fun s us ws h1 h2 _ => match us, ws, h1, h2 with | [_], [_], _, _ => .of_eq rfl
theorem sc_17 : FnScope ["self", "dealing"] ["self", "dealing"] (defScope (inClass (top 19) 0)) := ⟨rfl, rfl, rfl, by decide +kernel, rfl, by decide +kernel, by decide +kernel⟩
theorem ei_17 {f C : Addr} {fd : FuncData} (F : Fun K "__init__" "Barred.__init__" (inClass (top 19) 0) f fd) (E : ErI K mg "Barred" "dealing" C f) : FnOk P w K mg base CX0 1 f fd ["self", "dealing"] (spEI "dealing" C) := by
  refine F.ok sc_17 (fun vs H Q E h => ?_) (fun cdv A outer s H vs Q E' hr h => ?_)
  · obtain ⟨a, v, rfl, _⟩ := h
    rfl
  · obtain ⟨a, v, rfl, ha, k⟩ := h
    refine ⟨_, pss_one (ps_ost (pv 0) (pv 1)), ?_⟩
    exact ⟨_, rfl, _, rfl, a, C, rfl, E.er.ox, E.no, .inl ⟨ha, k⟩⟩
theorem bd_17 {f : Addr} {fd : FuncData} (F : Fun K "__init__" "Barred.__init__" (inClass (top 19) 0) f fd) : Bd K fd "dealing" := by
  refine ⟨F.binds (ps := ["self", "dealing"]) fun _ _ _ _ _ _ us hl => match us, hl with | [_, _], _ => rfl, ?_⟩
  obtain ⟨oc, od, kV, doc, pm, an, cdv, ct, osl, rfl, lk, hcd⟩ := F.ex
  exact fun s us ws h1 h2 _ => match us, ws, h1, h2 with | [_], [_], _, _ => .of_eq rfl
theorem sc_20 : FnScope ["self", "place"] ["self", "place"] (defScope (inClass (top 22) 0)) := ⟨rfl, rfl, rfl, by decide +kernel, rfl, by decide +kernel, by decide +kernel⟩
theorem ei_20 {f C : Addr} {fd : FuncData} (F : Fun K "__init__" "Halted.__init__" (inClass (top 22) 0) f fd) (E : ErI K mg "Halted" "place" C f) : FnOk P w K mg base CX0 1 f fd ["self", "place"] (spEI "place" C) := by
  refine F.ok sc_20 (fun vs H Q E h => ?_) (fun cdv A outer s H vs Q E' hr h => ?_)
  · obtain ⟨a, v, rfl, _⟩ := h
    rfl
  · obtain ⟨a, v, rfl, ha, k⟩ := h
    refine ⟨_, pss_one (ps_ost (pv 0) (pv 1)), ?_⟩
    exact ⟨_, rfl, _, rfl, a, C, rfl, E.er.ox, E.no, .inl ⟨ha, k⟩⟩
theorem bd_20 {f : Addr} {fd : FuncData} (F : Fun K "__init__" "Halted.__init__" (inClass (top 22) 0) f fd) : Bd K fd "place" := by
  refine ⟨F.binds (ps := ["self", "place"]) fun _ _ _ _ _ _ us hl => match us, hl with | [_, _], _ => rfl, ?_⟩
  obtain ⟨oc, od, kV, doc, pm, an, cdv, ct, osl, rfl, lk, hcd⟩ := F.ex
  exact fun s us ws h1 h2 _ => match us, ws, h1, h2 with | [_], [_], _, _ => .of_eq rfl
theorem sc_21 : FnScope ["self", "place"] ["self", "place"] (defScope (inClass (top 23) 0)) := ⟨rfl, rfl, rfl, by decide +kernel, rfl, by decide +kernel, by decide +kernel⟩
theorem ei_21 {f C : Addr} {fd : FuncData} (F : Fun K "__init__" "NoEntry.__init__" (inClass (top 23) 0) f fd) (E : ErI K mg "NoEntry" "place" C f) : FnOk P w K mg base CX0 1 f fd ["self", "place"] (spEI "place" C) := by
  refine F.ok sc_21 (fun vs H Q E h => ?_) (fun cdv A outer s H vs Q E' hr h => ?_)
  · obtain ⟨a, v, rfl, _⟩ := h
    rfl
  · obtain ⟨a, v, rfl, ha, k⟩ := h
    refine ⟨_, pss_one (ps_ost (pv 0) (pv 1)), ?_⟩
    exact ⟨_, rfl, _, rfl, a, C, rfl, E.er.ox, E.no, .inl ⟨ha, k⟩⟩
theorem bd_21 {f : Addr} {fd : FuncData} (F : Fun K "__init__" "NoEntry.__init__" (inClass (top 23) 0) f fd) : Bd K fd "place" := by
  refine ⟨F.binds (ps := ["self", "place"]) fun _ _ _ _ _ _ us hl => match us, hl with | [_, _], _ => rfl, ?_⟩
  obtain ⟨oc, od, kV, doc, pm, an, cdv, ct, osl, rfl, lk, hcd⟩ := F.ex
  exact fun s us ws h1 h2 _ => match us, ws, h1, h2 with | [_], [_], _, _ => .of_eq rfl
theorem sc_24 : FnScope ["self", "line"] ["self", "line"] (defScope (inClass (top 26) 0)) := ⟨rfl, rfl, rfl, by decide +kernel, rfl, by decide +kernel, by decide +kernel⟩
theorem ei_24 {f C : Addr} {fd : FuncData} (F : Fun K "__init__" "BadText.__init__" (inClass (top 26) 0) f fd) (E : ErI K mg "BadText" "line" C f) : FnOk P w K mg base CX0 1 f fd ["self", "line"] (spEI "line" C) := by
  refine F.ok sc_24 (fun vs H Q E h => ?_) (fun cdv A outer s H vs Q E' hr h => ?_)
  · obtain ⟨a, v, rfl, _⟩ := h
    rfl
  · obtain ⟨a, v, rfl, ha, k⟩ := h
    refine ⟨_, pss_one (ps_ost (pv 0) (pv 1)), ?_⟩
    exact ⟨_, rfl, _, rfl, a, C, rfl, E.er.ox, E.no, .inl ⟨ha, k⟩⟩
theorem bd_24 {f : Addr} {fd : FuncData} (F : Fun K "__init__" "BadText.__init__" (inClass (top 26) 0) f fd) : Bd K fd "line" := by
  refine ⟨F.binds (ps := ["self", "line"]) fun _ _ _ _ _ _ us hl => match us, hl with | [_, _], _ => rfl, ?_⟩
  obtain ⟨oc, od, kV, doc, pm, an, cdv, ct, osl, rfl, lk, hcd⟩ := F.ex
  exact fun s us ws h1 h2 _ => match us, ws, h1, h2 with | [_], [_], _, _ => .of_eq rfl
/-- what the top has written of the errors: class k at c k, its __init__ at fi k -/
structure TxE (K : PySem.W.Frag) (mg : Str → Option Value) (c fi : Nat → Addr) (fd : Nat → FuncData) : Prop where
  spc : Spc K
  z_isinstance : mg "isinstance" = none
  e0 : ErI K mg "BadColumns" "index" (c 0) (fi 0)
  F0 : Fun K "__init__" "BadColumns.__init__" (inClass (top 2) 0) (fi 0) (fd 0)
  e1 : ErI K mg "NoColumn" "name" (c 1) (fi 1)
  F1 : Fun K "__init__" "NoColumn.__init__" (inClass (top 3) 0) (fi 1) (fd 1)
  e2 : ErI K mg "BadNumber" "number" (c 2) (fi 2)
  F2 : Fun K "__init__" "BadNumber.__init__" (inClass (top 4) 0) (fi 2) (fd 2)
  e3 : ErI K mg "BadRow" "number" (c 3) (fi 3)
  F3 : Fun K "__init__" "BadRow.__init__" (inClass (top 5) 0) (fi 3) (fd 3)
  e4 : ErI K mg "BadFollowing" "following" (c 4) (fi 4)
  F4 : Fun K "__init__" "BadFollowing.__init__" (inClass (top 6) 0) (fi 4) (fd 4)
  e5 : ErI K mg "NoRow" "number" (c 5) (fi 5)
  F5 : Fun K "__init__" "NoRow.__init__" (inClass (top 7) 0) (fi 5) (fd 5)
  e6 : ErI K mg "BadLook" "given" (c 6) (fi 6)
  F6 : Fun K "__init__" "BadLook.__init__" (inClass (top 8) 0) (fi 6) (fd 6)
  e7 : Er0 K mg "UnlikeColumns" (c 7)
  e8 : ErI K mg "BadStatement" "part" (c 8) (fi 8)
  F8 : Fun K "__init__" "BadStatement.__init__" (inClass (top 10) 0) (fi 8) (fd 8)
  e9 : ErI K mg "BadTrigger" "part" (c 9) (fi 9)
  F9 : Fun K "__init__" "BadTrigger.__init__" (inClass (top 11) 0) (fi 9) (fd 9)
  e10 : ErI K mg "BadScript" "index" (c 10) (fi 10)
  F10 : Fun K "__init__" "BadScript.__init__" (inClass (top 12) 0) (fi 10) (fd 10)
  e11 : ErI K mg "NoStatement" "index" (c 11) (fi 11)
  F11 : Fun K "__init__" "NoStatement.__init__" (inClass (top 13) 0) (fi 11) (fd 11)
  e12 : ErI K mg "NotPlain" "index" (c 12) (fi 12)
  F12 : Fun K "__init__" "NotPlain.__init__" (inClass (top 14) 0) (fi 12) (fd 12)
  e13 : ErI K mg "BadDealings" "index" (c 13) (fi 13)
  F13 : Fun K "__init__" "BadDealings.__init__" (inClass (top 15) 0) (fi 13) (fd 13)
  e14 : ErI K mg "BadLevel" "level" (c 14) (fi 14)
  F14 : Fun K "__init__" "BadLevel.__init__" (inClass (top 16) 0) (fi 14) (fd 14)
  e15 : ErI K mg "BadOrder" "order" (c 15) (fi 15)
  F15 : Fun K "__init__" "BadOrder.__init__" (inClass (top 17) 0) (fi 15) (fd 15)
  e16 : ErI K mg "BadWord" "word" (c 16) (fi 16)
  F16 : Fun K "__init__" "BadWord.__init__" (inClass (top 18) 0) (fi 16) (fd 16)
  e17 : ErI K mg "Barred" "dealing" (c 17) (fi 17)
  F17 : Fun K "__init__" "Barred.__init__" (inClass (top 19) 0) (fi 17) (fd 17)
  e18 : Er0 K mg "Busy" (c 18)
  e19 : Er0 K mg "Closed" (c 19)
  e20 : ErI K mg "Halted" "place" (c 20) (fi 20)
  F20 : Fun K "__init__" "Halted.__init__" (inClass (top 22) 0) (fi 20) (fd 20)
  e21 : ErI K mg "NoEntry" "place" (c 21) (fi 21)
  F21 : Fun K "__init__" "NoEntry.__init__" (inClass (top 23) 0) (fi 21) (fd 21)
  e22 : Er0 K mg "NoWords" (c 22)
  e23 : Er0 K mg "Refused" (c 23)
  e24 : ErI K mg "BadText" "line" (c 24) (fi 24)
  F24 : Fun K "__init__" "BadText.__init__" (inClass (top 26) 0) (fi 24) (fd 24)
abbrev Es (c : Nat → Addr) : List Addr := [c 0, c 1, c 2, c 3, c 4, c 5, c 6, c 7, c 8, c 9, c 10, c 11, c 12, c 13, c 14, c 15, c 16, c 17, c 18, c 19, c 20, c 21, c 22, c 23, c 24]
def spFirst (c : Nat → Addr) : Sp := fun vs H Q _ => ∃ one : V, vs = [one] ∧ ∀ (p : Addr) (us : List V) (H' : Hp), H' p = some (.lst us) → Paired (PP H' one) us (Es c) → Same H H' → Q (.ref p) H'
def spBy : Sp := fun vs H Q _ => ∃ one : V, vs = [one] ∧ ∀ (p : Addr) (H' : Hp), H' p = some (.lst (List.replicate 20 one)) → Same H H' → Q (.ref p) H'
def spKinds (K : PySem.W.Frag) (c : Nat → Addr) : Sp := fun vs H Q _ => ∃ (a C : Addr), vs = [.ref a] ∧ ErAt H a C ∧ ErC K C ∧ PySem.W.mroIn K C (.type "object") = some true ∧ PySem.W.isClsIn K C = true ∧
  (∀ D ∈ Es c, PySem.W.kitOne K (.ref C) (.ref D) = some (decide (C = D))) ∧ ∀ (p : Addr) (H' : Hp), H' p = some (.lst ((Es c).map fun D => V.bl (decide (C = D)))) → Same H H' → Q (.ref p) H'
/-- the pairs so far -/
def Fd (H0 H : Hp) (one : V) (p : Addr) (Cs : List Addr) : Prop := ∃ us, H p = some (.lst us) ∧ Paired (PP H one) us Cs ∧ Same H0 H
theorem Paired.app {α β : Type} {R : α → β → Prop} : ∀ {xs xs' : List α} {ys ys' : List β}, Paired R xs ys → Paired R xs' ys' → Paired R (xs ++ xs') (ys ++ ys')
  | _, _, _, _, .nil, h => h
  | _, _, _, _, .cons a t, h => .cons a (Paired.app t h)
theorem Fd.cat {H0 H A : Hp} {one : V} {b q : Addr} {Cs Ds : List Addr} {xs us : List V} (hg : Paired (PP H one) xs Cs) (hs : Same H0 H) (e : Same H A) (g : Paired (PP A one) us Ds) (nb : A b = none) (nq : upd A b (.lst us) q = none) :
    Fd H0 (upd (upd A b (.lst us)) q (.lst (xs ++ us))) one q (Cs ++ Ds) := by
  have e1 := same_new (o := .lst us) nb
  have e2 := same_new (o := .lst (xs ++ us)) nq
  exact ⟨_, upd_same, Paired.app (L2.Paired.mapP hg fun _ _ z => z.same (e.trans (e1.trans e2))) (L2.Paired.mapP g fun _ _ z => z.same (e1.trans e2)), hs.trans (e.trans (e1.trans e2))⟩
theorem small {n m : Nat} (h : n = m) (hm : m ≤ 1000) : n ≤ sizeLine := by rw [h, sizeLine_eq]; omega
theorem scFirst : FnScope ["_law_one", "_law_found"] ["_law_one"] (defScope sFirst) := ⟨rfl, rfl, rfl, by decide +kernel, rfl, by decide +kernel, by decide +kernel⟩
theorem ok_first {f : Addr} {fd' : FuncData} {c fi : Nat → Addr} {fd : Nat → FuncData} (F : Fun K "_law_first" "_law_first" sFirst f fd') (T : TxE K mg c fi fd) : FnOk P w K mg base CX0 3 f fd' ["_law_one"] (spFirst c) := by
  refine F.ok scFirst (fun vs H Q E h => ?_) (fun cdv A outer s H vs Q E hr h => ?_)
  · obtain ⟨one, rfl, _⟩ := h
    rfl
  · obtain ⟨one, rfl, k⟩ := h
    refine ⟨_, (pss_cons (ps_set (i := 1) scFirst.nd rfl (Or.inl rfl) (pe_lst (pa_pair (pe_pair (pe_made T.e0 (ei_0 T.F0 T.e0) hr (bd_0 T.F0) rfl (pv 0)) (pe_fld T.e0 (ei_0 T.F0 T.e0) hr (bd_0 T.F0) rfl (pv 0))) (pa_pair (pe_pair (pe_made T.e1 (ei_1 T.F1 T.e1) hr (bd_1 T.F1) rfl (pv 0)) (pe_fld T.e1 (ei_1 T.F1 T.e1) hr (bd_1 T.F1) rfl (pv 0))) pa_pair0)))) (pss_cons (ps_set (i := 1) scFirst.nd rfl (Or.inl rfl) (pe_op op_cat (pv 1) (pe_lst (pa_pair (pe_pair (pe_made T.e2 (ei_2 T.F2 T.e2) hr (bd_2 T.F2) rfl (pv 0)) (pe_fld T.e2 (ei_2 T.F2 T.e2) hr (bd_2 T.F2) rfl (pv 0))) (pa_pair (pe_pair (pe_made T.e3 (ei_3 T.F3 T.e3) hr (bd_3 T.F3) rfl (pv 0)) (pe_fld T.e3 (ei_3 T.F3 T.e3) hr (bd_3 T.F3) rfl (pv 0))) pa_pair0))))) (pss_cons (ps_set (i := 1) scFirst.nd rfl (Or.inl rfl) (pe_op op_cat (pv 1) (pe_lst (pa_pair (pe_pair (pe_made T.e4 (ei_4 T.F4 T.e4) hr (bd_4 T.F4) rfl (pv 0)) (pe_fld T.e4 (ei_4 T.F4 T.e4) hr (bd_4 T.F4) rfl (pv 0))) (pa_pair (pe_pair (pe_made T.e5 (ei_5 T.F5 T.e5) hr (bd_5 T.F5) rfl (pv 0)) (pe_fld T.e5 (ei_5 T.F5 T.e5) hr (bd_5 T.F5) rfl (pv 0))) pa_pair0))))) (pss_cons (ps_set (i := 1) scFirst.nd rfl (Or.inl rfl) (pe_op op_cat (pv 1) (pe_lst (pa_pair (pe_pair (pe_made T.e6 (ei_6 T.F6 T.e6) hr (bd_6 T.F6) rfl (pv 0)) (pe_fld T.e6 (ei_6 T.F6 T.e6) hr (bd_6 T.F6) rfl (pv 0))) (pa_pair (pe_pair (pe_made0 (v := .non) T.e7 rfl) (pe_name1 (pv 0))) pa_pair0))))) (pss_cons (ps_set (i := 1) scFirst.nd rfl (Or.inl rfl) (pe_op op_cat (pv 1) (pe_lst (pa_pair (pe_pair (pe_made T.e8 (ei_8 T.F8 T.e8) hr (bd_8 T.F8) rfl (pv 0)) (pe_fld T.e8 (ei_8 T.F8 T.e8) hr (bd_8 T.F8) rfl (pv 0))) (pa_pair (pe_pair (pe_made T.e9 (ei_9 T.F9 T.e9) hr (bd_9 T.F9) rfl (pv 0)) (pe_fld T.e9 (ei_9 T.F9 T.e9) hr (bd_9 T.F9) rfl (pv 0))) pa_pair0))))) (pss_cons (ps_set (i := 1) scFirst.nd rfl (Or.inl rfl) (pe_op op_cat (pv 1) (pe_lst (pa_pair (pe_pair (pe_made T.e10 (ei_10 T.F10 T.e10) hr (bd_10 T.F10) rfl (pv 0)) (pe_fld T.e10 (ei_10 T.F10 T.e10) hr (bd_10 T.F10) rfl (pv 0))) (pa_pair (pe_pair (pe_made T.e11 (ei_11 T.F11 T.e11) hr (bd_11 T.F11) rfl (pv 0)) (pe_fld T.e11 (ei_11 T.F11 T.e11) hr (bd_11 T.F11) rfl (pv 0))) pa_pair0))))) (pss_cons (ps_set (i := 1) scFirst.nd rfl (Or.inl rfl) (pe_op op_cat (pv 1) (pe_lst (pa_pair (pe_pair (pe_made T.e12 (ei_12 T.F12 T.e12) hr (bd_12 T.F12) rfl (pv 0)) (pe_fld T.e12 (ei_12 T.F12 T.e12) hr (bd_12 T.F12) rfl (pv 0))) (pa_pair (pe_pair (pe_made T.e13 (ei_13 T.F13 T.e13) hr (bd_13 T.F13) rfl (pv 0)) (pe_fld T.e13 (ei_13 T.F13 T.e13) hr (bd_13 T.F13) rfl (pv 0))) pa_pair0))))) (pss_cons (ps_set (i := 1) scFirst.nd rfl (Or.inl rfl) (pe_op op_cat (pv 1) (pe_lst (pa_pair (pe_pair (pe_made T.e14 (ei_14 T.F14 T.e14) hr (bd_14 T.F14) rfl (pv 0)) (pe_fld T.e14 (ei_14 T.F14 T.e14) hr (bd_14 T.F14) rfl (pv 0))) (pa_pair (pe_pair (pe_made T.e15 (ei_15 T.F15 T.e15) hr (bd_15 T.F15) rfl (pv 0)) (pe_fld T.e15 (ei_15 T.F15 T.e15) hr (bd_15 T.F15) rfl (pv 0))) pa_pair0))))) (pss_cons (ps_set (i := 1) scFirst.nd rfl (Or.inl rfl) (pe_op op_cat (pv 1) (pe_lst (pa_pair (pe_pair (pe_made T.e16 (ei_16 T.F16 T.e16) hr (bd_16 T.F16) rfl (pv 0)) (pe_fld T.e16 (ei_16 T.F16 T.e16) hr (bd_16 T.F16) rfl (pv 0))) (pa_pair (pe_pair (pe_made T.e17 (ei_17 T.F17 T.e17) hr (bd_17 T.F17) rfl (pv 0)) (pe_fld T.e17 (ei_17 T.F17 T.e17) hr (bd_17 T.F17) rfl (pv 0))) (pa_pair (pe_pair (pe_made0 (v := .non) T.e18 rfl) (pe_name1 (pv 0))) pa_pair0)))))) (pss_cons (ps_set (i := 1) scFirst.nd rfl (Or.inl rfl) (pe_op op_cat (pv 1) (pe_lst (pa_pair (pe_pair (pe_made0 (v := .non) T.e19 rfl) (pe_name1 (pv 0))) (pa_pair (pe_pair (pe_made T.e20 (ei_20 T.F20 T.e20) hr (bd_20 T.F20) rfl (pv 0)) (pe_fld T.e20 (ei_20 T.F20 T.e20) hr (bd_20 T.F20) rfl (pv 0))) (pa_pair (pe_pair (pe_made T.e21 (ei_21 T.F21 T.e21) hr (bd_21 T.F21) rfl (pv 0)) (pe_fld T.e21 (ei_21 T.F21 T.e21) hr (bd_21 T.F21) rfl (pv 0))) pa_pair0)))))) (pss_one (ps_ret (pe_op op_cat (pv 1) (pe_lst (pa_pair (pe_pair (pe_made0 (v := .non) T.e22 rfl) (pe_name1 (pv 0))) (pa_pair (pe_pair (pe_made0 (v := .non) T.e23 rfl) (pe_name1 (pv 0))) (pa_pair (pe_pair (pe_made T.e24 (ei_24 T.F24 T.e24) hr (bd_24 T.F24) rfl (pv 0)) (pe_fld T.e24 (ei_24 T.F24 T.e24) hr (bd_24 T.F24) rfl (pv 0))) pa_pair0))))))))))))))))), ?_⟩
    refine ⟨one, rfl, fun us A e g => ⟨small (Paired.length g) (by show 2 ≤ 1000; decide), fun p0 np => ?_⟩⟩
    have f0 : Fd H (upd A p0 (.lst us)) one p0 [c 0, c 1] := ⟨us, upd_same, L2.Paired.mapP g fun _ _ z => z.same (same_new np), e.trans (same_new np)⟩
    clear g e
    revert f0
    generalize upd A p0 (.lst us) = B0
    intro f0
    obtain ⟨xs1, hx1, hg1, hs1⟩ := f0
    refine ⟨_, rfl, one, rfl, fun us1 A1 e1 g1 => ⟨small (Paired.length g1) (by show 2 ≤ 1000; decide), fun b1 nb1 => ⟨p0, b1, xs1, us1, rfl, rfl, same_new nb1 _ _ (e1 _ _ hx1), upd_same, small (m := 4) (by rw [Paired.length hg1, Paired.length g1]; rfl) (by decide), fun p1 nq1 => ?_⟩⟩⟩
    have f1 := Fd.cat hg1 hs1 e1 g1 nb1 nq1
    replace f1 : Fd H _ one p1 [c 0, c 1, c 2, c 3] := f1
    revert f1
    generalize upd (upd A1 b1 (.lst us1)) p1 (.lst (xs1 ++ us1)) = B1
    intro f1
    clear nq1 nb1 hx1 hg1 hs1 e1 g1
    obtain ⟨xs2, hx2, hg2, hs2⟩ := f1
    refine ⟨_, rfl, one, rfl, fun us2 A2 e2 g2 => ⟨small (Paired.length g2) (by show 2 ≤ 1000; decide), fun b2 nb2 => ⟨p1, b2, xs2, us2, rfl, rfl, same_new nb2 _ _ (e2 _ _ hx2), upd_same, small (m := 6) (by rw [Paired.length hg2, Paired.length g2]; rfl) (by decide), fun p2 nq2 => ?_⟩⟩⟩
    have f2 := Fd.cat hg2 hs2 e2 g2 nb2 nq2
    replace f2 : Fd H _ one p2 [c 0, c 1, c 2, c 3, c 4, c 5] := f2
    revert f2
    generalize upd (upd A2 b2 (.lst us2)) p2 (.lst (xs2 ++ us2)) = B2
    intro f2
    clear nq2 nb2 hx2 hg2 hs2 e2 g2
    obtain ⟨xs3, hx3, hg3, hs3⟩ := f2
    refine ⟨_, rfl, one, rfl, fun us3 A3 e3 g3 => ⟨small (Paired.length g3) (by show 2 ≤ 1000; decide), fun b3 nb3 => ⟨p2, b3, xs3, us3, rfl, rfl, same_new nb3 _ _ (e3 _ _ hx3), upd_same, small (m := 8) (by rw [Paired.length hg3, Paired.length g3]; rfl) (by decide), fun p3 nq3 => ?_⟩⟩⟩
    have f3 := Fd.cat hg3 hs3 e3 g3 nb3 nq3
    replace f3 : Fd H _ one p3 [c 0, c 1, c 2, c 3, c 4, c 5, c 6, c 7] := f3
    revert f3
    generalize upd (upd A3 b3 (.lst us3)) p3 (.lst (xs3 ++ us3)) = B3
    intro f3
    clear nq3 nb3 hx3 hg3 hs3 e3 g3
    obtain ⟨xs4, hx4, hg4, hs4⟩ := f3
    refine ⟨_, rfl, one, rfl, fun us4 A4 e4 g4 => ⟨small (Paired.length g4) (by show 2 ≤ 1000; decide), fun b4 nb4 => ⟨p3, b4, xs4, us4, rfl, rfl, same_new nb4 _ _ (e4 _ _ hx4), upd_same, small (m := 10) (by rw [Paired.length hg4, Paired.length g4]; rfl) (by decide), fun p4 nq4 => ?_⟩⟩⟩
    have f4 := Fd.cat hg4 hs4 e4 g4 nb4 nq4
    replace f4 : Fd H _ one p4 [c 0, c 1, c 2, c 3, c 4, c 5, c 6, c 7, c 8, c 9] := f4
    revert f4
    generalize upd (upd A4 b4 (.lst us4)) p4 (.lst (xs4 ++ us4)) = B4
    intro f4
    clear nq4 nb4 hx4 hg4 hs4 e4 g4
    obtain ⟨xs5, hx5, hg5, hs5⟩ := f4
    refine ⟨_, rfl, one, rfl, fun us5 A5 e5 g5 => ⟨small (Paired.length g5) (by show 2 ≤ 1000; decide), fun b5 nb5 => ⟨p4, b5, xs5, us5, rfl, rfl, same_new nb5 _ _ (e5 _ _ hx5), upd_same, small (m := 12) (by rw [Paired.length hg5, Paired.length g5]; rfl) (by decide), fun p5 nq5 => ?_⟩⟩⟩
    have f5 := Fd.cat hg5 hs5 e5 g5 nb5 nq5
    replace f5 : Fd H _ one p5 [c 0, c 1, c 2, c 3, c 4, c 5, c 6, c 7, c 8, c 9, c 10, c 11] := f5
    revert f5
    generalize upd (upd A5 b5 (.lst us5)) p5 (.lst (xs5 ++ us5)) = B5
    intro f5
    clear nq5 nb5 hx5 hg5 hs5 e5 g5
    obtain ⟨xs6, hx6, hg6, hs6⟩ := f5
    refine ⟨_, rfl, one, rfl, fun us6 A6 e6 g6 => ⟨small (Paired.length g6) (by show 2 ≤ 1000; decide), fun b6 nb6 => ⟨p5, b6, xs6, us6, rfl, rfl, same_new nb6 _ _ (e6 _ _ hx6), upd_same, small (m := 14) (by rw [Paired.length hg6, Paired.length g6]; rfl) (by decide), fun p6 nq6 => ?_⟩⟩⟩
    have f6 := Fd.cat hg6 hs6 e6 g6 nb6 nq6
    replace f6 : Fd H _ one p6 [c 0, c 1, c 2, c 3, c 4, c 5, c 6, c 7, c 8, c 9, c 10, c 11, c 12, c 13] := f6
    revert f6
    generalize upd (upd A6 b6 (.lst us6)) p6 (.lst (xs6 ++ us6)) = B6
    intro f6
    clear nq6 nb6 hx6 hg6 hs6 e6 g6
    obtain ⟨xs7, hx7, hg7, hs7⟩ := f6
    refine ⟨_, rfl, one, rfl, fun us7 A7 e7 g7 => ⟨small (Paired.length g7) (by show 2 ≤ 1000; decide), fun b7 nb7 => ⟨p6, b7, xs7, us7, rfl, rfl, same_new nb7 _ _ (e7 _ _ hx7), upd_same, small (m := 16) (by rw [Paired.length hg7, Paired.length g7]; rfl) (by decide), fun p7 nq7 => ?_⟩⟩⟩
    have f7 := Fd.cat hg7 hs7 e7 g7 nb7 nq7
    replace f7 : Fd H _ one p7 [c 0, c 1, c 2, c 3, c 4, c 5, c 6, c 7, c 8, c 9, c 10, c 11, c 12, c 13, c 14, c 15] := f7
    revert f7
    generalize upd (upd A7 b7 (.lst us7)) p7 (.lst (xs7 ++ us7)) = B7
    intro f7
    clear nq7 nb7 hx7 hg7 hs7 e7 g7
    obtain ⟨xs8, hx8, hg8, hs8⟩ := f7
    refine ⟨_, rfl, one, rfl, fun us8 A8 e8 g8 => ⟨small (Paired.length g8) (by show 3 ≤ 1000; decide), fun b8 nb8 => ⟨p7, b8, xs8, us8, rfl, rfl, same_new nb8 _ _ (e8 _ _ hx8), upd_same, small (m := 19) (by rw [Paired.length hg8, Paired.length g8]; rfl) (by decide), fun p8 nq8 => ?_⟩⟩⟩
    have f8 := Fd.cat hg8 hs8 e8 g8 nb8 nq8
    replace f8 : Fd H _ one p8 [c 0, c 1, c 2, c 3, c 4, c 5, c 6, c 7, c 8, c 9, c 10, c 11, c 12, c 13, c 14, c 15, c 16, c 17, c 18] := f8
    revert f8
    generalize upd (upd A8 b8 (.lst us8)) p8 (.lst (xs8 ++ us8)) = B8
    intro f8
    clear nq8 nb8 hx8 hg8 hs8 e8 g8
    obtain ⟨xs9, hx9, hg9, hs9⟩ := f8
    refine ⟨_, rfl, one, rfl, fun us9 A9 e9 g9 => ⟨small (Paired.length g9) (by show 3 ≤ 1000; decide), fun b9 nb9 => ⟨p8, b9, xs9, us9, rfl, rfl, same_new nb9 _ _ (e9 _ _ hx9), upd_same, small (m := 22) (by rw [Paired.length hg9, Paired.length g9]; rfl) (by decide), fun p9 nq9 => ?_⟩⟩⟩
    have f9 := Fd.cat hg9 hs9 e9 g9 nb9 nq9
    replace f9 : Fd H _ one p9 [c 0, c 1, c 2, c 3, c 4, c 5, c 6, c 7, c 8, c 9, c 10, c 11, c 12, c 13, c 14, c 15, c 16, c 17, c 18, c 19, c 20, c 21] := f9
    revert f9
    generalize upd (upd A9 b9 (.lst us9)) p9 (.lst (xs9 ++ us9)) = B9
    intro f9
    clear nq9 nb9 hx9 hg9 hs9 e9 g9
    obtain ⟨xs10, hx10, hg10, hs10⟩ := f9
    refine ⟨_, rfl, one, rfl, fun us10 A10 e10 g10 => ⟨small (Paired.length g10) (by show 3 ≤ 1000; decide), fun b10 nb10 => ⟨p9, b10, xs10, us10, rfl, rfl, same_new nb10 _ _ (e10 _ _ hx10), upd_same, small (m := 25) (by rw [Paired.length hg10, Paired.length g10]; rfl) (by decide), fun p10 nq10 => ?_⟩⟩⟩
    have f10 := Fd.cat hg10 hs10 e10 g10 nb10 nq10
    obtain ⟨us', h1, h2, h3⟩ := f10
    exact k p10 us' _ h1 h2 h3
theorem scBy : FnScope ["_law_one", "_law_found"] ["_law_one"] (defScope sBy) := ⟨rfl, rfl, rfl, by decide +kernel, rfl, by decide +kernel, by decide +kernel⟩
theorem by_cat {H0 H A : Hp} {one : V} {b q : Addr} {n m : Nat} (hs : Same H0 H) (e : Same H A) (nb : A b = none) (nq : upd A b (.lst (List.replicate m one)) q = none) :
    upd (upd A b (.lst (List.replicate m one))) q (.lst (List.replicate n one ++ List.replicate m one)) q = some (.lst (List.replicate (n + m) one)) ∧ Same H0 (upd (upd A b (.lst (List.replicate m one))) q (.lst (List.replicate n one ++ List.replicate m one))) := by
  refine ⟨?_, hs.trans (e.trans ((same_new nb).trans (same_new nq)))⟩
  rw [upd_same, List.replicate_append_replicate]
theorem ok_by {f : Addr} {fd' : FuncData} {c fi : Nat → Addr} {fd : Nat → FuncData} (F : Fun K "_law_by_name" "_law_by_name" sBy f fd') (T : TxE K mg c fi fd) : FnOk P w K mg base CX0 3 f fd' ["_law_one"] spBy := by
  refine F.ok scBy (fun vs H Q E h => ?_) (fun cdv A outer s H vs Q E hr h => ?_)
  · obtain ⟨one, rfl, _⟩ := h
    rfl
  · obtain ⟨one, rfl, k⟩ := h
    refine ⟨_, (pss_cons (ps_set (i := 1) scBy.nd rfl (Or.inl rfl) (pe_lst (pa_one (pe_fldK T.e0 (ei_0 T.F0 T.e0) hr (bd_0 T.F0) rfl (pv 0)) (pa_one (pe_fldK T.e1 (ei_1 T.F1 T.e1) hr (bd_1 T.F1) rfl (pv 0)) (pa_one (pe_fldK T.e2 (ei_2 T.F2 T.e2) hr (bd_2 T.F2) rfl (pv 0)) pa_one0))))) (pss_cons (ps_set (i := 1) scBy.nd rfl (Or.inl rfl) (pe_op op_cat (pv 1) (pe_lst (pa_one (pe_fldK T.e3 (ei_3 T.F3 T.e3) hr (bd_3 T.F3) rfl (pv 0)) (pa_one (pe_fldK T.e4 (ei_4 T.F4 T.e4) hr (bd_4 T.F4) rfl (pv 0)) (pa_one (pe_fldK T.e5 (ei_5 T.F5 T.e5) hr (bd_5 T.F5) rfl (pv 0)) pa_one0)))))) (pss_cons (ps_set (i := 1) scBy.nd rfl (Or.inl rfl) (pe_op op_cat (pv 1) (pe_lst (pa_one (pe_fldK T.e6 (ei_6 T.F6 T.e6) hr (bd_6 T.F6) rfl (pv 0)) (pa_one (pe_fldK T.e8 (ei_8 T.F8 T.e8) hr (bd_8 T.F8) rfl (pv 0)) (pa_one (pe_fldK T.e9 (ei_9 T.F9 T.e9) hr (bd_9 T.F9) rfl (pv 0)) pa_one0)))))) (pss_cons (ps_set (i := 1) scBy.nd rfl (Or.inl rfl) (pe_op op_cat (pv 1) (pe_lst (pa_one (pe_fldK T.e10 (ei_10 T.F10 T.e10) hr (bd_10 T.F10) rfl (pv 0)) (pa_one (pe_fldK T.e11 (ei_11 T.F11 T.e11) hr (bd_11 T.F11) rfl (pv 0)) (pa_one (pe_fldK T.e12 (ei_12 T.F12 T.e12) hr (bd_12 T.F12) rfl (pv 0)) pa_one0)))))) (pss_cons (ps_set (i := 1) scBy.nd rfl (Or.inl rfl) (pe_op op_cat (pv 1) (pe_lst (pa_one (pe_fldK T.e13 (ei_13 T.F13 T.e13) hr (bd_13 T.F13) rfl (pv 0)) (pa_one (pe_fldK T.e14 (ei_14 T.F14 T.e14) hr (bd_14 T.F14) rfl (pv 0)) (pa_one (pe_fldK T.e15 (ei_15 T.F15 T.e15) hr (bd_15 T.F15) rfl (pv 0)) pa_one0)))))) (pss_cons (ps_set (i := 1) scBy.nd rfl (Or.inl rfl) (pe_op op_cat (pv 1) (pe_lst (pa_one (pe_fldK T.e16 (ei_16 T.F16 T.e16) hr (bd_16 T.F16) rfl (pv 0)) (pa_one (pe_fldK T.e17 (ei_17 T.F17 T.e17) hr (bd_17 T.F17) rfl (pv 0)) (pa_one (pe_fldK T.e20 (ei_20 T.F20 T.e20) hr (bd_20 T.F20) rfl (pv 0)) pa_one0)))))) (pss_one (ps_ret (pe_op op_cat (pv 1) (pe_lst (pa_one (pe_fldK T.e21 (ei_21 T.F21 T.e21) hr (bd_21 T.F21) rfl (pv 0)) (pa_one (pe_fldK T.e24 (ei_24 T.F24 T.e24) hr (bd_24 T.F24) rfl (pv 0)) pa_one0)))))))))))), ?_⟩
    refine ⟨one, rfl, fun A e => ⟨small (List.length_replicate ..) (by decide), fun p0 np => ?_⟩⟩
    have f0 : upd A p0 (.lst (List.replicate 3 one)) p0 = some (.lst (List.replicate 3 one)) ∧ Same H (upd A p0 (.lst (List.replicate 3 one))) := ⟨upd_same, e.trans (same_new np)⟩
    revert f0
    generalize upd A p0 (.lst (List.replicate 3 one)) = B0
    intro f0
    refine ⟨_, rfl, one, rfl, fun A1 e1 => ⟨small (List.length_replicate ..) (by decide), fun b1 nb1 => ⟨p0, b1, List.replicate 3 one, List.replicate 3 one, rfl, rfl, same_new nb1 _ _ (e1 _ _ f0.1), upd_same, small (m := 6) (by first | rfl | simp) (by decide), fun p1 nq1 => ?_⟩⟩⟩
    have f1 := by_cat (n := 3) (m := 3) f0.2 e1 nb1 nq1
    revert f1
    generalize upd (upd A1 b1 (.lst (List.replicate 3 one))) p1 (.lst (List.replicate 3 one ++ List.replicate 3 one)) = B1
    intro f1
    refine ⟨_, rfl, one, rfl, fun A2 e2 => ⟨small (List.length_replicate ..) (by decide), fun b2 nb2 => ⟨p1, b2, List.replicate 6 one, List.replicate 3 one, rfl, rfl, same_new nb2 _ _ (e2 _ _ f1.1), upd_same, small (m := 9) (by first | rfl | simp) (by decide), fun p2 nq2 => ?_⟩⟩⟩
    have f2 := by_cat (n := 6) (m := 3) f1.2 e2 nb2 nq2
    revert f2
    generalize upd (upd A2 b2 (.lst (List.replicate 3 one))) p2 (.lst (List.replicate 6 one ++ List.replicate 3 one)) = B2
    intro f2
    refine ⟨_, rfl, one, rfl, fun A3 e3 => ⟨small (List.length_replicate ..) (by decide), fun b3 nb3 => ⟨p2, b3, List.replicate 9 one, List.replicate 3 one, rfl, rfl, same_new nb3 _ _ (e3 _ _ f2.1), upd_same, small (m := 12) (by first | rfl | simp) (by decide), fun p3 nq3 => ?_⟩⟩⟩
    have f3 := by_cat (n := 9) (m := 3) f2.2 e3 nb3 nq3
    revert f3
    generalize upd (upd A3 b3 (.lst (List.replicate 3 one))) p3 (.lst (List.replicate 9 one ++ List.replicate 3 one)) = B3
    intro f3
    refine ⟨_, rfl, one, rfl, fun A4 e4 => ⟨small (List.length_replicate ..) (by decide), fun b4 nb4 => ⟨p3, b4, List.replicate 12 one, List.replicate 3 one, rfl, rfl, same_new nb4 _ _ (e4 _ _ f3.1), upd_same, small (m := 15) (by first | rfl | simp) (by decide), fun p4 nq4 => ?_⟩⟩⟩
    have f4 := by_cat (n := 12) (m := 3) f3.2 e4 nb4 nq4
    revert f4
    generalize upd (upd A4 b4 (.lst (List.replicate 3 one))) p4 (.lst (List.replicate 12 one ++ List.replicate 3 one)) = B4
    intro f4
    refine ⟨_, rfl, one, rfl, fun A5 e5 => ⟨small (List.length_replicate ..) (by decide), fun b5 nb5 => ⟨p4, b5, List.replicate 15 one, List.replicate 3 one, rfl, rfl, same_new nb5 _ _ (e5 _ _ f4.1), upd_same, small (m := 18) (by first | rfl | simp) (by decide), fun p5 nq5 => ?_⟩⟩⟩
    have f5 := by_cat (n := 15) (m := 3) f4.2 e5 nb5 nq5
    revert f5
    generalize upd (upd A5 b5 (.lst (List.replicate 3 one))) p5 (.lst (List.replicate 15 one ++ List.replicate 3 one)) = B5
    intro f5
    refine ⟨_, rfl, one, rfl, fun A6 e6 => ⟨small (List.length_replicate ..) (by decide), fun b6 nb6 => ⟨p5, b6, List.replicate 18 one, List.replicate 2 one, rfl, rfl, same_new nb6 _ _ (e6 _ _ f5.1), upd_same, small (m := 20) (by first | rfl | simp) (by decide), fun p6 nq6 => ?_⟩⟩⟩
    have f6 := by_cat (n := 18) (m := 2) f5.2 e6 nb6 nq6
    exact k p6 _ f6.1 f6.2
theorem scKinds : FnScope ["_law_e", "_law_found"] ["_law_e"] (defScope sKinds) := ⟨rfl, rfl, rfl, by decide +kernel, rfl, by decide +kernel, by decide +kernel⟩
theorem ki_cat {H0 H A : Hp} {b q : Addr} {xs ys : List V} (hs : Same H0 H) (nb : H b = none) (nq : upd H b (.lst ys) q = none) :
    upd (upd H b (.lst ys)) q (.lst (xs ++ ys)) q = some (.lst (xs ++ ys)) ∧ Same H0 (upd (upd H b (.lst ys)) q (.lst (xs ++ ys))) := ⟨upd_same, hs.trans ((same_new nb).trans (same_new nq))⟩
theorem ok_kinds {f : Addr} {fd' : FuncData} {c fi : Nat → Addr} {fd : Nat → FuncData} (F : Fun K "_law_kinds" "_law_kinds" sKinds f fd') (T : TxE K mg c fi fd) : FnOk P w K mg base CX0 1 f fd' ["_law_e"] (spKinds K c) := by
  refine F.ok scKinds (fun vs H Q E h => ?_) (fun cdv A outer s H vs Q E hr h => ?_)
  · obtain ⟨a, C, rfl, _⟩ := h
    rfl
  · obtain ⟨a, C, rfl, g, er, mo, ic, kt, k⟩ := h
    refine ⟨_, (pss_cons (ps_set (i := 1) scKinds.nd rfl (Or.inl rfl) (pe_lst (pa_is (pe_is T.spc T.z_isinstance T.e0.toEr.gC rfl rfl (pv 0)) (pa_is (pe_is T.spc T.z_isinstance T.e1.toEr.gC rfl rfl (pv 0)) (pa_is (pe_is T.spc T.z_isinstance T.e2.toEr.gC rfl rfl (pv 0)) (pa_is (pe_is T.spc T.z_isinstance T.e3.toEr.gC rfl rfl (pv 0)) pa_is0)))))) (pss_cons (ps_set (i := 1) scKinds.nd rfl (Or.inl rfl) (pe_op op_cat (pv 1) (pe_lst (pa_is (pe_is T.spc T.z_isinstance T.e4.toEr.gC rfl rfl (pv 0)) (pa_is (pe_is T.spc T.z_isinstance T.e5.toEr.gC rfl rfl (pv 0)) (pa_is (pe_is T.spc T.z_isinstance T.e6.toEr.gC rfl rfl (pv 0)) pa_is0)))))) (pss_cons (ps_set (i := 1) scKinds.nd rfl (Or.inl rfl) (pe_op op_cat (pv 1) (pe_lst (pa_is (pe_is T.spc T.z_isinstance T.e7.toEr.gC rfl rfl (pv 0)) (pa_is (pe_is T.spc T.z_isinstance T.e8.toEr.gC rfl rfl (pv 0)) (pa_is (pe_is T.spc T.z_isinstance T.e9.toEr.gC rfl rfl (pv 0)) pa_is0)))))) (pss_cons (ps_set (i := 1) scKinds.nd rfl (Or.inl rfl) (pe_op op_cat (pv 1) (pe_lst (pa_is (pe_is T.spc T.z_isinstance T.e10.toEr.gC rfl rfl (pv 0)) (pa_is (pe_is T.spc T.z_isinstance T.e11.toEr.gC rfl rfl (pv 0)) (pa_is (pe_is T.spc T.z_isinstance T.e12.toEr.gC rfl rfl (pv 0)) pa_is0)))))) (pss_cons (ps_set (i := 1) scKinds.nd rfl (Or.inl rfl) (pe_op op_cat (pv 1) (pe_lst (pa_is (pe_is T.spc T.z_isinstance T.e13.toEr.gC rfl rfl (pv 0)) (pa_is (pe_is T.spc T.z_isinstance T.e14.toEr.gC rfl rfl (pv 0)) (pa_is (pe_is T.spc T.z_isinstance T.e15.toEr.gC rfl rfl (pv 0)) pa_is0)))))) (pss_cons (ps_set (i := 1) scKinds.nd rfl (Or.inl rfl) (pe_op op_cat (pv 1) (pe_lst (pa_is (pe_is T.spc T.z_isinstance T.e16.toEr.gC rfl rfl (pv 0)) (pa_is (pe_is T.spc T.z_isinstance T.e17.toEr.gC rfl rfl (pv 0)) (pa_is (pe_is T.spc T.z_isinstance T.e18.toEr.gC rfl rfl (pv 0)) (pa_is (pe_is T.spc T.z_isinstance T.e19.toEr.gC rfl rfl (pv 0)) pa_is0))))))) (pss_cons (ps_set (i := 1) scKinds.nd rfl (Or.inl rfl) (pe_op op_cat (pv 1) (pe_lst (pa_is (pe_is T.spc T.z_isinstance T.e20.toEr.gC rfl rfl (pv 0)) (pa_is (pe_is T.spc T.z_isinstance T.e21.toEr.gC rfl rfl (pv 0)) (pa_is (pe_is T.spc T.z_isinstance T.e22.toEr.gC rfl rfl (pv 0)) (pa_is (pe_is T.spc T.z_isinstance T.e23.toEr.gC rfl rfl (pv 0)) pa_is0))))))) (pss_one (ps_ret (pe_op op_cat (pv 1) (pe_lst (pa_is (pe_is T.spc T.z_isinstance T.e24.toEr.gC rfl rfl (pv 0)) pa_is0)))))))))))), ?_⟩
    refine ⟨a, C, rfl, g, er, mo, ic, fun D hD => kt D (show D ∈ ([c 0, c 1, c 2, c 3] ++ [c 4, c 5, c 6, c 7, c 8, c 9, c 10, c 11, c 12, c 13, c 14, c 15, c 16, c 17, c 18, c 19, c 20, c 21, c 22, c 23, c 24] : List Addr) from List.mem_append_left _ hD), ⟨by show 4 ≤ sizeLine; decide, fun p0 np => ?_⟩⟩
    have f0 : upd H p0 (.lst ([c 0, c 1, c 2, c 3].map fun D => V.bl (decide (C = D)))) p0 = some (.lst ([c 0, c 1, c 2, c 3].map fun D => V.bl (decide (C = D)))) ∧ Same H (upd H p0 (.lst ([c 0, c 1, c 2, c 3].map fun D => V.bl (decide (C = D))))) := ⟨upd_same, same_new np⟩
    revert f0
    generalize upd H p0 (.lst ([c 0, c 1, c 2, c 3].map fun D => V.bl (decide (C = D)))) = B0
    intro f0
    refine ⟨_, rfl, a, C, rfl, g.same f0.2, er, mo, ic, fun D hD => kt D (show D ∈ ([c 0, c 1, c 2, c 3] ++ ([c 4, c 5, c 6] ++ [c 7, c 8, c 9, c 10, c 11, c 12, c 13, c 14, c 15, c 16, c 17, c 18, c 19, c 20, c 21, c 22, c 23, c 24]) : List Addr) from List.mem_append_right _ (List.mem_append_left _ hD)), ⟨by show 3 ≤ sizeLine; decide, fun b1 nb1 => ⟨p0, b1, _, _, rfl, rfl, same_new nb1 _ _ f0.1, upd_same, by show 4 + 3 ≤ sizeLine; decide, fun p1 nq1 => ?_⟩⟩⟩
    have f1 := ki_cat (A := H) (xs := ([c 0, c 1, c 2, c 3].map fun D => V.bl (decide (C = D)))) (ys := ([c 4, c 5, c 6].map fun D => V.bl (decide (C = D)))) f0.2 nb1 nq1
    replace f1 : _ ∧ _ := f1
    revert f1
    generalize upd (upd B0 b1 (.lst ([c 4, c 5, c 6].map fun D => V.bl (decide (C = D))))) p1 (.lst (([c 0, c 1, c 2, c 3].map fun D => V.bl (decide (C = D))) ++ ([c 4, c 5, c 6].map fun D => V.bl (decide (C = D))))) = B1
    intro f1
    replace f1 : B1 p1 = some (.lst ([c 0, c 1, c 2, c 3, c 4, c 5, c 6].map fun D => V.bl (decide (C = D)))) ∧ Same H B1 := f1
    refine ⟨_, rfl, a, C, rfl, g.same f1.2, er, mo, ic, fun D hD => kt D (show D ∈ ([c 0, c 1, c 2, c 3, c 4, c 5, c 6] ++ ([c 7, c 8, c 9] ++ [c 10, c 11, c 12, c 13, c 14, c 15, c 16, c 17, c 18, c 19, c 20, c 21, c 22, c 23, c 24]) : List Addr) from List.mem_append_right _ (List.mem_append_left _ hD)), ⟨by show 3 ≤ sizeLine; decide, fun b2 nb2 => ⟨p1, b2, _, _, rfl, rfl, same_new nb2 _ _ f1.1, upd_same, by show 7 + 3 ≤ sizeLine; decide, fun p2 nq2 => ?_⟩⟩⟩
    have f2 := ki_cat (A := H) (xs := ([c 0, c 1, c 2, c 3, c 4, c 5, c 6].map fun D => V.bl (decide (C = D)))) (ys := ([c 7, c 8, c 9].map fun D => V.bl (decide (C = D)))) f1.2 nb2 nq2
    replace f2 : _ ∧ _ := f2
    revert f2
    generalize upd (upd B1 b2 (.lst ([c 7, c 8, c 9].map fun D => V.bl (decide (C = D))))) p2 (.lst (([c 0, c 1, c 2, c 3, c 4, c 5, c 6].map fun D => V.bl (decide (C = D))) ++ ([c 7, c 8, c 9].map fun D => V.bl (decide (C = D))))) = B2
    intro f2
    replace f2 : B2 p2 = some (.lst ([c 0, c 1, c 2, c 3, c 4, c 5, c 6, c 7, c 8, c 9].map fun D => V.bl (decide (C = D)))) ∧ Same H B2 := f2
    refine ⟨_, rfl, a, C, rfl, g.same f2.2, er, mo, ic, fun D hD => kt D (show D ∈ ([c 0, c 1, c 2, c 3, c 4, c 5, c 6, c 7, c 8, c 9] ++ ([c 10, c 11, c 12] ++ [c 13, c 14, c 15, c 16, c 17, c 18, c 19, c 20, c 21, c 22, c 23, c 24]) : List Addr) from List.mem_append_right _ (List.mem_append_left _ hD)), ⟨by show 3 ≤ sizeLine; decide, fun b3 nb3 => ⟨p2, b3, _, _, rfl, rfl, same_new nb3 _ _ f2.1, upd_same, by show 10 + 3 ≤ sizeLine; decide, fun p3 nq3 => ?_⟩⟩⟩
    have f3 := ki_cat (A := H) (xs := ([c 0, c 1, c 2, c 3, c 4, c 5, c 6, c 7, c 8, c 9].map fun D => V.bl (decide (C = D)))) (ys := ([c 10, c 11, c 12].map fun D => V.bl (decide (C = D)))) f2.2 nb3 nq3
    replace f3 : _ ∧ _ := f3
    revert f3
    generalize upd (upd B2 b3 (.lst ([c 10, c 11, c 12].map fun D => V.bl (decide (C = D))))) p3 (.lst (([c 0, c 1, c 2, c 3, c 4, c 5, c 6, c 7, c 8, c 9].map fun D => V.bl (decide (C = D))) ++ ([c 10, c 11, c 12].map fun D => V.bl (decide (C = D))))) = B3
    intro f3
    replace f3 : B3 p3 = some (.lst ([c 0, c 1, c 2, c 3, c 4, c 5, c 6, c 7, c 8, c 9, c 10, c 11, c 12].map fun D => V.bl (decide (C = D)))) ∧ Same H B3 := f3
    refine ⟨_, rfl, a, C, rfl, g.same f3.2, er, mo, ic, fun D hD => kt D (show D ∈ ([c 0, c 1, c 2, c 3, c 4, c 5, c 6, c 7, c 8, c 9, c 10, c 11, c 12] ++ ([c 13, c 14, c 15] ++ [c 16, c 17, c 18, c 19, c 20, c 21, c 22, c 23, c 24]) : List Addr) from List.mem_append_right _ (List.mem_append_left _ hD)), ⟨by show 3 ≤ sizeLine; decide, fun b4 nb4 => ⟨p3, b4, _, _, rfl, rfl, same_new nb4 _ _ f3.1, upd_same, by show 13 + 3 ≤ sizeLine; decide, fun p4 nq4 => ?_⟩⟩⟩
    have f4 := ki_cat (A := H) (xs := ([c 0, c 1, c 2, c 3, c 4, c 5, c 6, c 7, c 8, c 9, c 10, c 11, c 12].map fun D => V.bl (decide (C = D)))) (ys := ([c 13, c 14, c 15].map fun D => V.bl (decide (C = D)))) f3.2 nb4 nq4
    replace f4 : _ ∧ _ := f4
    revert f4
    generalize upd (upd B3 b4 (.lst ([c 13, c 14, c 15].map fun D => V.bl (decide (C = D))))) p4 (.lst (([c 0, c 1, c 2, c 3, c 4, c 5, c 6, c 7, c 8, c 9, c 10, c 11, c 12].map fun D => V.bl (decide (C = D))) ++ ([c 13, c 14, c 15].map fun D => V.bl (decide (C = D))))) = B4
    intro f4
    replace f4 : B4 p4 = some (.lst ([c 0, c 1, c 2, c 3, c 4, c 5, c 6, c 7, c 8, c 9, c 10, c 11, c 12, c 13, c 14, c 15].map fun D => V.bl (decide (C = D)))) ∧ Same H B4 := f4
    refine ⟨_, rfl, a, C, rfl, g.same f4.2, er, mo, ic, fun D hD => kt D (show D ∈ ([c 0, c 1, c 2, c 3, c 4, c 5, c 6, c 7, c 8, c 9, c 10, c 11, c 12, c 13, c 14, c 15] ++ ([c 16, c 17, c 18, c 19] ++ [c 20, c 21, c 22, c 23, c 24]) : List Addr) from List.mem_append_right _ (List.mem_append_left _ hD)), ⟨by show 4 ≤ sizeLine; decide, fun b5 nb5 => ⟨p4, b5, _, _, rfl, rfl, same_new nb5 _ _ f4.1, upd_same, by show 16 + 4 ≤ sizeLine; decide, fun p5 nq5 => ?_⟩⟩⟩
    have f5 := ki_cat (A := H) (xs := ([c 0, c 1, c 2, c 3, c 4, c 5, c 6, c 7, c 8, c 9, c 10, c 11, c 12, c 13, c 14, c 15].map fun D => V.bl (decide (C = D)))) (ys := ([c 16, c 17, c 18, c 19].map fun D => V.bl (decide (C = D)))) f4.2 nb5 nq5
    replace f5 : _ ∧ _ := f5
    revert f5
    generalize upd (upd B4 b5 (.lst ([c 16, c 17, c 18, c 19].map fun D => V.bl (decide (C = D))))) p5 (.lst (([c 0, c 1, c 2, c 3, c 4, c 5, c 6, c 7, c 8, c 9, c 10, c 11, c 12, c 13, c 14, c 15].map fun D => V.bl (decide (C = D))) ++ ([c 16, c 17, c 18, c 19].map fun D => V.bl (decide (C = D))))) = B5
    intro f5
    replace f5 : B5 p5 = some (.lst ([c 0, c 1, c 2, c 3, c 4, c 5, c 6, c 7, c 8, c 9, c 10, c 11, c 12, c 13, c 14, c 15, c 16, c 17, c 18, c 19].map fun D => V.bl (decide (C = D)))) ∧ Same H B5 := f5
    refine ⟨_, rfl, a, C, rfl, g.same f5.2, er, mo, ic, fun D hD => kt D (show D ∈ ([c 0, c 1, c 2, c 3, c 4, c 5, c 6, c 7, c 8, c 9, c 10, c 11, c 12, c 13, c 14, c 15, c 16, c 17, c 18, c 19] ++ ([c 20, c 21, c 22, c 23] ++ [c 24]) : List Addr) from List.mem_append_right _ (List.mem_append_left _ hD)), ⟨by show 4 ≤ sizeLine; decide, fun b6 nb6 => ⟨p5, b6, _, _, rfl, rfl, same_new nb6 _ _ f5.1, upd_same, by show 20 + 4 ≤ sizeLine; decide, fun p6 nq6 => ?_⟩⟩⟩
    have f6 := ki_cat (A := H) (xs := ([c 0, c 1, c 2, c 3, c 4, c 5, c 6, c 7, c 8, c 9, c 10, c 11, c 12, c 13, c 14, c 15, c 16, c 17, c 18, c 19].map fun D => V.bl (decide (C = D)))) (ys := ([c 20, c 21, c 22, c 23].map fun D => V.bl (decide (C = D)))) f5.2 nb6 nq6
    replace f6 : _ ∧ _ := f6
    revert f6
    generalize upd (upd B5 b6 (.lst ([c 20, c 21, c 22, c 23].map fun D => V.bl (decide (C = D))))) p6 (.lst (([c 0, c 1, c 2, c 3, c 4, c 5, c 6, c 7, c 8, c 9, c 10, c 11, c 12, c 13, c 14, c 15, c 16, c 17, c 18, c 19].map fun D => V.bl (decide (C = D))) ++ ([c 20, c 21, c 22, c 23].map fun D => V.bl (decide (C = D))))) = B6
    intro f6
    replace f6 : B6 p6 = some (.lst ([c 0, c 1, c 2, c 3, c 4, c 5, c 6, c 7, c 8, c 9, c 10, c 11, c 12, c 13, c 14, c 15, c 16, c 17, c 18, c 19, c 20, c 21, c 22, c 23].map fun D => V.bl (decide (C = D)))) ∧ Same H B6 := f6
    refine ⟨_, rfl, a, C, rfl, g.same f6.2, er, mo, ic, fun D hD => kt D (show D ∈ ([c 0, c 1, c 2, c 3, c 4, c 5, c 6, c 7, c 8, c 9, c 10, c 11, c 12, c 13, c 14, c 15, c 16, c 17, c 18, c 19, c 20, c 21, c 22, c 23] ++ ([c 24] ++ []) : List Addr) from List.mem_append_right _ (List.mem_append_left _ hD)), ⟨by show 1 ≤ sizeLine; decide, fun b7 nb7 => ⟨p6, b7, _, _, rfl, rfl, same_new nb7 _ _ f6.1, upd_same, by show 24 + 1 ≤ sizeLine; decide, fun p7 nq7 => ?_⟩⟩⟩
    have f7 := ki_cat (A := H) (xs := ([c 0, c 1, c 2, c 3, c 4, c 5, c 6, c 7, c 8, c 9, c 10, c 11, c 12, c 13, c 14, c 15, c 16, c 17, c 18, c 19, c 20, c 21, c 22, c 23].map fun D => V.bl (decide (C = D)))) (ys := ([c 24].map fun D => V.bl (decide (C = D)))) f6.2 nb7 nq7
    exact k p7 _ f7.1 f7.2
end
end L2.E5

namespace L2.E5
open PySem PySem.Spec PyProof.Rows L2.Vx
abbrev sLaw : Stmt := top 36
abbrev nLaw : List Str := ["_law_script", "_law_stream", "_law_turn", "_law_one", "_law_at", "_law_e", "_law_kept", "_law_k"]
theorem kinds_eq {l : List Addr} (nd : l.Nodup) {j : Nat} {C : Addr} (h : l[j]? = some C) : l.map (fun D => decide (C = D)) = (List.range l.length).map (fun k => decide (k = j)) := by
  obtain ⟨hj, hC⟩ := List.getElem?_eq_some_iff.mp h
  refine List.ext_getElem (by simp) fun k h1 h2 => ?_
  have hk : k < l.length := by simpa using h1
  rw [List.getElem_map, List.getElem_map, List.getElem_range]
  by_cases e : k = j
  · subst e
    rw [decide_eq_true hC.symm, decide_eq_true rfl]
  · rw [decide_eq_false e, decide_eq_false]
    intro q
    have q' : l[j] = l[k] := hC.trans q
    have pw := List.pairwise_iff_getElem.mp nd
    rcases Nat.lt_or_ge j k with z | z
    · exact pw j k hj hk z q'
    · exact pw k j hk hj (Nat.lt_of_le_of_ne z e) q'.symm
theorem dp_bools {K : PySem.W.Frag} {H : Hp} : ∀ bs : List Bool, DpAll K H (bs.map V.bl) (bs.map PyData.bool)
  | [] => .nil
  | n :: r => .cons (.bl n) (dp_bools r)
theorem canLay_bools : ∀ bs : List Bool, PyData.canLayAll0 (bs.map PyData.bool) = true
  | [] => rfl
  | _ :: r => by simp [PyData.canLayAll0, PyData.canLay0, canLay_bools r]
theorem depth_bools : ∀ bs : List Bool, PyData.depthAll (bs.map PyData.bool) = 0
  | [] => rfl
  | _ :: r => by simp [PyData.depthAll, PyData.depth, depth_bools r]
theorem shaped_bools (bs : List Bool) : SeqAt.shaped (.list (bs.map PyData.bool)) = true := by
  simp [SeqAt.shaped, PyData.canLay0, PyData.depth, canLay_bools, depth_bools]
theorem eqv_bools : ∀ bs : List Bool, PyData.eqvAll (bs.map PyData.bool) (bs.map PyData.bool) = true
  | [] => rfl
  | _ :: r => by simp [PyData.eqvAll, PyData.eqv, eqv_bools r]
def spLaw (K : PySem.W.Frag) : Sp := fun vs H Q _ => ∃ (p : Addr) (ns : List Int), vs = [.ref p] ∧ SqL K H p (ns.map V.int) ∧ ∀ H', Q (.bl true) H'
structure TxL (K : PySem.W.Frag) (mg : Str → Option Value) (c : Nat → Addr) (CT FS : Addr) : Prop where
  spc : Spc K
  z_isinstance : mg "isinstance" = none
  z_range : mg "range" = none
  z_enumerate : mg "enumerate" = none
  z_VE : mg "ValueError" = none
  gT : mg "ToldError" = some (.ref CT)
  nd : (Es c).Nodup
  er : ∀ C ∈ Es c, ErC K C ∧ PySem.W.mroIn K C (.type "object") = some true ∧ PySem.W.isClsIn K C = true ∧ PySem.W.kitOne K (.ref C) (.ref CT) = some true ∧ PySem.W.kitOne K (.ref C) (.type "ValueError") = some true ∧ ∀ D ∈ Es c, PySem.W.kitOne K (.ref C) (.ref D) = some (decide (C = D))
section
variable {P : Program} {w : World} {K : PySem.W.Frag} {mg : Str → Option Value} {base : Heap}
theorem scLaw : FnScope nLaw ["_law_script"] (defScope sLaw) := ⟨rfl, rfl, rfl, by decide +kernel, rfl, by decide +kernel, by decide +kernel⟩
theorem ok_law {c : Nat → Addr} {CT f fstart fthing ffirst fby fkinds fsame ftup : Addr} {fd dstart dthing dfirst dby dkinds dsame dtup : FuncData} (F : Fun K "law" "law" sLaw f fd) (T : TxL K mg c CT f)
    (hm : (mg "_law_start" = some (.ref fstart) ∧ PySem.W.keepIn K (.ref fstart) = true) ∧ (mg "_law_thing" = some (.ref fthing) ∧ PySem.W.keepIn K (.ref fthing) = true) ∧ (mg "_law_first" = some (.ref ffirst) ∧ PySem.W.keepIn K (.ref ffirst) = true) ∧
      (mg "_law_by_name" = some (.ref fby) ∧ PySem.W.keepIn K (.ref fby) = true) ∧ (mg "_law_kinds" = some (.ref fkinds) ∧ PySem.W.keepIn K (.ref fkinds) = true) ∧ (mg "_law_same" = some (.ref fsame) ∧ PySem.W.keepIn K (.ref fsame) = true) ∧ (mg "_law_tupled" = some (.ref ftup) ∧ PySem.W.keepIn K (.ref ftup) = true))
    (Gstart : FnOk P w K mg base CX0 1 fstart dstart ["_law_script"] (spStart K)) (bstart : Binds K dstart ["_law_script"] [])
    (Gthing : FnOk P w K mg base CX0 5 fthing dthing ["_law_stream", "_law_deep"] (spThing 3)) (bthing : Binds K dthing ["_law_stream", "_law_deep"] [])
    (Gfirst : FnOk P w K mg base CX0 3 ffirst dfirst ["_law_one"] (spFirst c)) (bfirst : Binds K dfirst ["_law_one"] [])
    (Gby : FnOk P w K mg base CX0 3 fby dby ["_law_one"] spBy) (bby : Binds K dby ["_law_one"] [])
    (Gkinds : FnOk P w K mg base CX0 1 fkinds dkinds ["_law_e"] (spKinds K c)) (bkinds : Binds K dkinds ["_law_e"] [])
    (Gsame : FnOk P w K mg base CX0 8 fsame dsame ["_law_found", "_law_due"] (spSame 7)) (bsame : Binds K dsame ["_law_found", "_law_due"] [])
    (Gtup : FnOk P w K mg base CX0 8 ftup dtup ["_law_thing_here"] (spTup 7)) (btup : Binds K dtup ["_law_thing_here"] []) : FnOk P w K mg base CX0 9 f fd ["_law_script"] (spLaw K) := by
  obtain ⟨⟨m_start, k_start⟩, ⟨m_thing, k_thing⟩, ⟨m_first, k_first⟩, ⟨m_by, k_by⟩, ⟨m_kinds, k_kinds⟩, ⟨m_same, k_same⟩, ⟨m_tup, k_tup⟩⟩ := hm
  refine F.ok scLaw (fun vs H Q E h => ?_) (fun cdv A outer s H vs Q E hr h => ?_)
  · obtain ⟨p, ns, rfl, _⟩ := h
    rfl
  · obtain ⟨p, ns, rfl, hp, k⟩ := h
    refine ⟨_, (pss_cons (ps_set (i := 1) scLaw.nd rfl (Or.inl rfl) (pe_call Gstart (hr.mono (by decide)) rfl m_start k_start bstart .nil pass0 (pa_cons (pv 0) pa_nil))) (pss_cons (ps_for PassesOwn.never rfl (pi_range1 (by rfl) T.z_range (pa_cons pe_int pa_nil)) (pg_name (i := 2) scLaw.nd rfl (Or.inl rfl)) (pss_cons (ps_set (i := 3) scLaw.nd rfl (Or.inl rfl) (pe_call Gthing (hr.mono (by decide)) rfl m_thing k_thing bthing .nil pass0 (pa_cons (pv 1) (pa_cons pe_int pa_nil)))) (pss_cons (ps_for PassesOwn.never rfl (pi_enum (by rfl) T.z_enumerate (pa_cons (pe_call Gfirst (hr.mono (by decide)) rfl m_first k_first bfirst .nil pass0 (pa_cons (pv 3) pa_nil)) pa_nil)) (pg_tup rfl (pgs_cons (pg_name (i := 4) scLaw.nd rfl (Or.inr rfl)) (pgs_cons (pg_tup rfl (pgs_cons (pg_name (i := 5) scLaw.nd rfl (Or.inl rfl)) (pgs_cons (pg_name (i := 6) scLaw.nd rfl (Or.inl rfl)) pgs_nil))) pgs_nil))) (pss_cons (ps_if (PW.pt (pw_or (pt_not (pt_val (pe_callB (call_xi T.spc) (by rfl) T.z_isinstance (by decide +kernel) (pa_cons (pv 5) (pa_cons (pe_glob (v := .ref CT) rfl T.gT rfl) pa_nil))))) (pw_or1 (pt_not (pt_val (pe_callB (call_xi T.spc) (by rfl) T.z_isinstance (by decide +kernel) (pa_cons (pv 5) (pa_cons (pe_bltn (v := .ty "ValueError") (by rfl) T.z_VE (by decide +kernel) rfl) pa_nil)))))))) (pss_one (ps_ret pe_bl)) pss_nil) (pss_cons (ps_if (pt_cmpR (op_neD hr.units) (pe_call Gkinds (hr.mono (by decide)) rfl m_kinds k_kinds bkinds .nil pass0 (pa_cons (pv 5) pa_nil)) (pe_lc (own := [("_law_k", 7)]) (g := gName 7) (tt := tYes) rfl scLaw.nd (pi_range1 rfl T.z_range (pa_cons pe_int pa_nil)) (blkOk_by (N := nLaw) (sc := defScope sLaw) (by decide +kernel)) (fun _ _ _ _ _ => pg_name (i := 7) scLaw.nd rfl (Or.inl rfl)) (fun _ _ _ _ _ => pts_nil) (fun _ _ _ _ _ => pe_cmpR op_eq (pv 7) (pv 4) (nomark _))) (nomark _)) (pss_one (ps_ret pe_bl)) pss_nil) (pss_one (ps_if (pt_not (pt_val (pe_call Gsame (hr.mono (by decide)) rfl m_same k_same bsame .nil pass0 (pa_cons (pe_call Gtup (hr.mono (by decide)) rfl m_tup k_tup btup .nil pass0 (pa_cons (pv 6) pa_nil)) (pa_cons (pe_call Gtup (hr.mono (by decide)) rfl m_tup k_tup btup .nil pass0 (pa_cons (pv 3) pa_nil)) pa_nil))))) (pss_one (ps_ret pe_bl)) pss_nil))))) (pss_one (ps_for PassesOwn.never rfl (pi_list (pe_call Gby (hr.mono (by decide)) rfl m_by k_by bby .nil pass0 (pa_cons (pv 3) pa_nil))) (pg_name (i := 6) scLaw.nd rfl (Or.inl rfl)) (pss_one (ps_if (pt_not (pt_val (pe_call Gsame (hr.mono (by decide)) rfl m_same k_same bsame .nil pass0 (pa_cons (pe_call Gtup (hr.mono (by decide)) rfl m_tup k_tup btup .nil pass0 (pa_cons (pv 6) pa_nil)) (pa_cons (pe_call Gtup (hr.mono (by decide)) rfl m_tup k_tup btup .nil pass0 (pa_cons (pv 3) pa_nil)) pa_nil))))) (pss_one (ps_ret pe_bl)) pss_nil))))))) (pss_one (ps_ret pe_bl)))), ?_⟩
    refine ⟨_, rfl, p, ns, rfl, hp, fun a b H1 S1 e1 na nb => ?_⟩
    refine ⟨4, rfl, by decide, by decide, for_range (lo := 0) (n := 4) (fun i σ H2 => ∃ v2 v3 v4 v5 v6, σ = [some (.ref p), some (.ref a), v2, v3, v4, v5, v6, none] ∧ StO H2 a b (22 * i)) ⟨none, none, none, none, none, rfl, S1.le (by omega)⟩ ?_ ?_⟩
    · rintro i σ H2 hi ⟨v2, v3, v4, v5, v6, rfl, S2⟩
      refine ⟨_, rfl, a, b, 22 * i, rfl, S2, by show 22 * i + 22 ≤ 1000000; omega, fun one d H3 r3 S3 k3 => ?_⟩
      -- for at, (e, kept) in enumerate(first(one))
      refine ⟨_, rfl, one, rfl, fun pl us H4 hl hg e4 => ⟨pl, us, rfl, SqL.of hl, for_it (walk_enum (xs := us)) (fun j σ H5 => ∃ w4 w5 w6, σ = [some (.ref p), some (.ref a), some (.int (0 + (i : Nat))), some one, w4, w5, w6, none] ∧ Same H4 H5) ⟨_, _, _, rfl, Same.refl _⟩ ?_ ?_ ?_⟩⟩
      · rintro j σ H5 _ ⟨_, _, _, _, e5⟩
        exact SqL.of (e5 _ _ hl)
      · rintro j x σ H5 H5' hj ⟨w4, w5, w6, rfl, e5⟩ ⟨q, x1, y1, rfl, nq, e, hx1, hy1⟩
        subst e
        obtain rfl : V.int (j : Nat) = x1 := Option.some.inj hx1
        have e6 : Same H4 (upd H5 q (.tup [V.int (j : Nat), y1])) := e5.trans (same_new nq)
        obtain ⟨C, hC, t, ae, rfl, ht, hE⟩ := Paired.get hg hy1
        have hmem : C ∈ Es c := List.mem_of_getElem? hC
        obtain ⟨er, mo, ic, kT, kV, kD⟩ := T.er C hmem
        generalize hH6 : upd H5 q (.tup [V.int (j : Nat), V.ref t]) = H6 at e6
        have hq6 : H6 q = some (.tup [V.int (j : Nat), V.ref t]) := by rw [← hH6]; exact upd_same
        have hE6 := hE.same e6
        obtain ⟨d0, g1, g2⟩ := id hE6
        refine ⟨q, _, rfl, SqT.of hq6, rfl, _, _, rfl, _, _, rfl, t, _, rfl, SqT.of (e6 _ _ ht), rfl, _, _, rfl, _, _, rfl, rfl, rfl, ?_⟩
        -- isinstance
        refine ⟨_, rfl, ae, C, d0, .ref CT, .ref CT, _, rfl, .own CT, er, mo, ic, g1, g2, kT, _, rfl, ?_⟩
        refine iteF ?_
        refine ⟨_, rfl, ae, C, d0, .ty "ValueError", .type "ValueError", _, rfl, .ty _, er, mo, ic, g1, g2, kV, _, rfl, ?_⟩
        refine iteF ?_
        -- kinds
        refine ⟨_, rfl, ae, C, rfl, hE6, er, mo, ic, kD, fun pk H7 hk e7 => ⟨25, rfl, by decide, by decide, fun D nD => ?_⟩⟩
        refine lc_range (lo := 0) (n := 25) (fun i' H8 => H8 D = some (.lst (((List.range i').map fun k => decide (k = j)).map V.bl)) ∧ Same H7 H8) ⟨upd_same, same_new nD⟩ ?_ ?_
        · rintro i' H8 hi' ⟨hD8, e8⟩
          refine ⟨rfl, ?_⟩
          unfold tYes
          refine iteT ?_
          refine ⟨_, rfl, _, rfl, rfl, ⟨_, hD8, ?_, ?_, fun c' o z => ?_⟩⟩
          · rw [List.length_map, List.length_map, List.length_range]
            exact Nat.lt_of_le_of_lt (by omega : i' ≤ 25) (by decide)
          · have eb : decide (V.int (0 + (i' : Int)) = V.int (j : Int)) = decide (i' = j) := by
              refine decide_eq_decide.mpr ⟨fun z => ?_, fun z => ?_⟩
              · injection z with z
                omega
              · rw [z, Int.zero_add]
            rw [upd_same, List.range_succ, List.map_append, List.map_append]
            show some (HO.lst (_ ++ [V.bl (decide (V.int (0 + (i' : Int)) = V.int (j : Int)))])) = _
            rw [eb]
            rfl
          · rw [upd_ne (ne_of_none z nD)]
            exact e8 _ _ z
        · rintro H8 ⟨hD8, e8⟩
          have ek := kinds_eq T.nd hC
          have hk' : H8 pk = some (.lst (((List.range 25).map fun k => decide (k = j)).map V.bl)) := by
            rw [e8 _ _ hk]
            rw [show (Es c).map (fun D => V.bl (decide (C = D))) = ((Es c).map fun D => decide (C = D)).map V.bl by rw [List.map_map]; rfl, ek]
            rfl
          generalize ((List.range 25).map fun k => decide (k = j)) = bs at hk' hD8
          refine ⟨_, _, .lst (SqL.of hk') (dp_bools bs), .lst (SqL.of hD8) (dp_bools bs), shaped_bools bs, shaped_bools bs, _, rfl, ?_⟩
          rw [show PyData.eqv (.list (bs.map PyData.bool)) (.list (bs.map PyData.bool)) = true by rw [PyData.eqv]; exact eqv_bools bs]
          refine iteF ?_
          have e38 : Same H3 H8 := e4.trans (e6.trans (e7.trans e8))
          refine ⟨_, rfl, one, d, _, rfl, r3.kp (Kp.of e38), fun w1 H9 s1 e9 => ⟨_, rfl, one, d, _, rfl, r3.kp (Kp.of (e38.trans e9)), fun w2 HA s2 eA => ⟨w1, w2, d, NoS, NoS, rfl, s1.kp (Kp.of eA), s2, by decide, fun HB eB => ⟨_, rfl, ?_⟩⟩⟩⟩
          refine iteF ?_
          exact ⟨_, _, _, rfl, e6.trans (e7.trans (e8.trans (e9.trans (eA.trans eB))))⟩
      · rintro σ H5 ⟨w4, w5, w6, rfl, e5⟩
        have e35 : Same H3 H5 := e4.trans e5
        refine ⟨_, rfl, one, rfl, fun pb H6 hb e6 => ⟨pb, rfl, ⟨_, SqL.of hb⟩, for_list (K := K) (a := pb) (xs := List.replicate 20 one) (fun j σ H7 => ∃ w4 w5 w6, σ = [some (.ref p), some (.ref a), some (.int (0 + (i : Nat))), some one, w4, w5, w6, none] ∧ Same H6 H7) ⟨_, _, _, rfl, Same.refl _⟩ ?_ ?_ ?_⟩⟩
        · rintro j σ H7 _ ⟨_, _, _, _, e7⟩
          exact SqL.of (e7 _ _ hb)
        · rintro j y σ H7 hy ⟨w4, w5, w6, rfl, e7⟩
          have ey : y = one := List.eq_of_mem_replicate (List.mem_of_getElem? hy)
          subst ey
          have e37 : Same H3 H7 := e35.trans (e6.trans e7)
          refine ⟨_, rfl, y, d, _, rfl, r3.kp (Kp.of e37), fun w1 H9 s1 e9 => ⟨_, rfl, y, d, _, rfl, r3.kp (Kp.of (e37.trans e9)), fun w2 HA s2 eA => ⟨w1, w2, d, NoS, NoS, rfl, s1.kp (Kp.of eA), s2, by decide, fun HB eB => ⟨_, rfl, ?_⟩⟩⟩⟩
          refine iteF ?_
          exact ⟨_, _, _, rfl, e7.trans (e9.trans (eA.trans eB))⟩
        · rintro σ H7 ⟨w4, w5, w6, rfl, e7⟩
          exact ⟨_, _, _, _, _, rfl, ((S3.kp (e35.trans (e6.trans e7))).le (by show 22 * i + 22 ≤ 22 * (i + 1); omega))⟩
    · rintro σ H2 _
      exact k H2
end
end L2.E5

namespace L2.E5
open PySem PySem.Spec PyProof.Rows L2.Vx
abbrev bmV : List Value := [.type "ValueError", .type "Exception", .type "BaseException", .type "object"]
abbrev bmT (CT : Addr) : List Value := .ref CT :: bmV
section
variable {K : PySem.W.Frag} {mg : Str → Option Value} {C D CT : Addr} {nm qn nm' qn' nm2 qn2 : Str} {N N' N2 : Addr} {bs sub bs' sub' bs2 sub2 : List Value} {sn sn' sn2 : List Str} {ab ab' ab2 : Bool} {col col' col2 : Option Bool} {dd dd' dd2 : Option Addr} {m0 m1 m2 m3 m5 m0' m1' m2' m3' m5' k0 k1 k2 k3 k5 : Option Value}
theorem cls_of {bm : List Value} (x : K.lookup C = some (excClassObj nm qn C N bs bm true sn sub ab col dd m0 m1 m2 m3 m5 "ValueError.__new__")) : ∃ cd, PySem.W.clsIn K C = some cd ∧ cd.mro = .ref C :: bm ∧ cd.hasDict = true := by
  refine ⟨{ name := nm, bases := bs, mro := .ref C :: bm, ns := N, qualname := qn, hasDict := true, slotNames := sn, subclasses := sub, abstract := ab, collection := col, hasDel := false }, ?_, rfl, rfl⟩
  unfold PySem.W.clsIn
  rw [x] <;> rfl
theorem mro_of {bm : List Value} (x : K.lookup C = some (excClassObj nm qn C N bs bm true sn sub ab col dd m0 m1 m2 m3 m5 "ValueError.__new__")) (base : Value) : PySem.W.mroIn K C base = some ((Value.ref C :: bm).contains base) := by
  obtain ⟨cd, h1, h2, _⟩ := cls_of x
  unfold PySem.W.mroIn
  rw [h1, Option.bind_some, h2] <;> rfl
theorem ty_of {bm : List Value} (x : K.lookup C = some (excClassObj nm qn C N bs bm true sn sub ab col dd m0 m1 m2 m3 m5 "ValueError.__new__")) : PySem.W.typeIn K (.ref C) = some (.type "type") := by
  show (K.lookup C).map (·.cls) = _
  rw [x]
  rfl
theorem kit_cls {bm : List Value} {t : Value} (x : K.lookup D = some (excClassObj nm qn D N bs bm true sn sub ab col dd m0 m1 m2 m3 m5 "ValueError.__new__")) : PySem.W.kitCls K t (.ref D) = PySem.W.subIn K t (.ref D) := by
  obtain ⟨cd, h1, _⟩ := cls_of x
  show (if ((PySem.W.clsIn K D).isSome && PySem.W.typeIn K (.ref D) == some (.type "type")) = true then _ else none) = _
  rw [h1, ty_of x]
  rfl
theorem er_mk {x : Str} (g : mg x = some (.ref C)) (xL : K.lookup C = some (excClassObj nm qn C N bs (bmT CT) true sn sub ab col dd m0 m1 m2 m3 m5 "ValueError.__new__")) (sa : PySem.W.findIn K (.ref C) "__setattr__" = some (some (.builtin "object.__setattr__")))
    (ga : PySem.W.findIn K (.ref C) "__getattribute__" = some (some (.builtin "BaseException.__getattribute__"))) (gg : PySem.W.findIn K (.ref C) "__getattr__" = some none) (cl : PySem.W.findIn K (.ref C) "__class__" = some (some (.builtin "object.__class__"))) (kC : PySem.W.keepIn K (.ref C) = true) : Er K mg x C where
  gC := g
  er := ⟨⟨⟨nm, qn, N, bs, bmT CT, sn, sub, ab, col, dd, m0, m1, m2, m3, m5, xL, show PySem.HandSPX.refsVE bmV = true by decide +kernel⟩, sa, mro_of xL _, ty_of xL, kC⟩, ga, gg, cl⟩
  mo := mro_of xL _
  ic := by
    obtain ⟨cd, h1, _⟩ := cls_of xL
    show (PySem.W.clsIn K C).isSome = true
    rw [h1]
    rfl
theorem hd_of {bm : List Value} (x : K.lookup C = some (excClassObj nm qn C N bs bm true sn sub ab col dd m0 m1 m2 m3 m5 "ValueError.__new__")) : PySem.W.hasDictIn K C = true := by
  obtain ⟨cd, h1, _, h3⟩ := cls_of x
  unfold PySem.W.hasDictIn
  rw [h1]
  exact h3
theorem kit_ne (xC : K.lookup C = some (excClassObj nm qn C N bs (bmT CT) true sn sub ab col dd m0 m1 m2 m3 m5 "ValueError.__new__")) (xD : K.lookup D = some (excClassObj nm' qn' D N' bs' (bmT CT) true sn' sub' ab' col' dd' m0' m1' m2' m3' m5' "ValueError.__new__")) (h : CT ≠ D) :
    PySem.W.kitOne K (.ref C) (.ref D) = some (decide (C = D)) := by
  by_cases e : C = D
  · subst e
    rw [decide_eq_true rfl]
    unfold PySem.W.kitOne
    rw [if_pos (by simp)]
  · rw [decide_eq_false e]
    unfold PySem.W.kitOne
    rw [if_neg (by simpa using e), kit_cls xD]
    show PySem.W.mroIn K C (.ref D) = _
    rw [mro_of xC]
    have e1 : (Value.ref D == Value.ref C) = false := by simpa using fun z => e z.symm
    have e2 : (Value.ref D == Value.ref CT) = false := by simpa using fun z => h z.symm
    rw [List.contains_cons, e1, List.contains_cons, e2]
    rfl
theorem kit_told (xC : K.lookup C = some (excClassObj nm qn C N bs (bmT CT) true sn sub ab col dd m0 m1 m2 m3 m5 "ValueError.__new__")) (xT : K.lookup CT = some (excClassObj nm2 qn2 CT N2 bs2 bmV true sn2 sub2 ab2 col2 dd2 k0 k1 k2 k3 k5 "ValueError.__new__")) :
    PySem.W.kitOne K (.ref C) (.ref CT) = some true := by
  unfold PySem.W.kitOne
  split
  · rfl
  · rw [kit_cls xT]
    show PySem.W.mroIn K C (.ref CT) = _
    rw [mro_of xC]
    simp
theorem kit_val (xC : K.lookup C = some (excClassObj nm qn C N bs (bmT CT) true sn sub ab col dd m0 m1 m2 m3 m5 "ValueError.__new__")) : PySem.W.kitOne K (.ref C) (.type "ValueError") = some true := by
  unfold PySem.W.kitOne
  split
  · rfl
  · show (if PySem.W.kitMeta "ValueError" = true then PySem.W.subIn K (.ref C) (.type "ValueError") else none) = _
    rw [if_pos (by decide +kernel)]
    show PySem.W.mroIn K C (.type "ValueError") = _
    rw [mro_of xC]
    rfl
end
/-- what a class shows, its place left open -/
def IsEr (K : PySem.W.Frag) (CT C : Addr) : Prop := ∃ nm q N bs sn sub ab col dd m0 m1 m2 m3 m5, K.lookup C = some (excClassObj nm q C N bs (bmT CT) true sn sub ab col dd m0 m1 m2 m3 m5 "ValueError.__new__")
theorem all_kits {K : PySem.W.Frag} {CT : Addr} {l : List Addr} (h : ∀ C ∈ l, IsEr K CT C) (nT : CT ∉ l) : ∀ C ∈ l, ∀ D ∈ l, PySem.W.kitOne K (.ref C) (.ref D) = some (decide (C = D)) := fun C hC D hD => by
  obtain ⟨_, _, _, _, _, _, _, _, _, _, _, _, _, _, x⟩ := h C hC
  obtain ⟨_, _, _, _, _, _, _, _, _, _, _, _, _, _, y⟩ := h D hD
  exact kit_ne x y fun z => nT (z ▸ hD)
theorem all_mk {l : PySem.W.OpenLaw} {w : World} {K : PySem.W.Frag} {h : Heap} {mg : Str → Option Value} {fa : Addr} (X : K.In h) (G : h.Ns mainGlobals mg) (hfa : mg "law" = some (.ref fa))
    {CT : Addr}
    {xnT xqT : Str} {xNT : Addr} {xbT xuT : List Value} {xsT : List Str} {xvT : Bool} {xoT : Option Bool} {xdT : Option Addr} {maT mbT mcT mdT mfT : Option Value}
    {C0 : Addr}
    {xn0 xq0 : Str} {xN0 : Addr} {xb0 xu0 : List Value} {xs0 : List Str} {xv0 : Bool} {xo0 : Option Bool} {xd0 : Option Addr} {ma0 mb0 mc0 md0 mf0 : Option Value}
    {f0 : Addr} {oc0 kV0 dc0 pm0 cd0 ct0 : Value} {od0 an0 : Option Addr} {sl0 : Array (Option Value)}
    {C1 : Addr}
    {xn1 xq1 : Str} {xN1 : Addr} {xb1 xu1 : List Value} {xs1 : List Str} {xv1 : Bool} {xo1 : Option Bool} {xd1 : Option Addr} {ma1 mb1 mc1 md1 mf1 : Option Value}
    {f1 : Addr} {oc1 kV1 dc1 pm1 cd1 ct1 : Value} {od1 an1 : Option Addr} {sl1 : Array (Option Value)}
    {C2 : Addr}
    {xn2 xq2 : Str} {xN2 : Addr} {xb2 xu2 : List Value} {xs2 : List Str} {xv2 : Bool} {xo2 : Option Bool} {xd2 : Option Addr} {ma2 mb2 mc2 md2 mf2 : Option Value}
    {f2 : Addr} {oc2 kV2 dc2 pm2 cd2 ct2 : Value} {od2 an2 : Option Addr} {sl2 : Array (Option Value)}
    {C3 : Addr}
    {xn3 xq3 : Str} {xN3 : Addr} {xb3 xu3 : List Value} {xs3 : List Str} {xv3 : Bool} {xo3 : Option Bool} {xd3 : Option Addr} {ma3 mb3 mc3 md3 mf3 : Option Value}
    {f3 : Addr} {oc3 kV3 dc3 pm3 cd3 ct3 : Value} {od3 an3 : Option Addr} {sl3 : Array (Option Value)}
    {C4 : Addr}
    {xn4 xq4 : Str} {xN4 : Addr} {xb4 xu4 : List Value} {xs4 : List Str} {xv4 : Bool} {xo4 : Option Bool} {xd4 : Option Addr} {ma4 mb4 mc4 md4 mf4 : Option Value}
    {f4 : Addr} {oc4 kV4 dc4 pm4 cd4 ct4 : Value} {od4 an4 : Option Addr} {sl4 : Array (Option Value)}
    {C5 : Addr}
    {xn5 xq5 : Str} {xN5 : Addr} {xb5 xu5 : List Value} {xs5 : List Str} {xv5 : Bool} {xo5 : Option Bool} {xd5 : Option Addr} {ma5 mb5 mc5 md5 mf5 : Option Value}
    {f5 : Addr} {oc5 kV5 dc5 pm5 cd5 ct5 : Value} {od5 an5 : Option Addr} {sl5 : Array (Option Value)}
    {C6 : Addr}
    {xn6 xq6 : Str} {xN6 : Addr} {xb6 xu6 : List Value} {xs6 : List Str} {xv6 : Bool} {xo6 : Option Bool} {xd6 : Option Addr} {ma6 mb6 mc6 md6 mf6 : Option Value}
    {f6 : Addr} {oc6 kV6 dc6 pm6 cd6 ct6 : Value} {od6 an6 : Option Addr} {sl6 : Array (Option Value)}
    {C7 : Addr}
    {xn7 xq7 : Str} {xN7 : Addr} {xb7 xu7 : List Value} {xs7 : List Str} {xv7 : Bool} {xo7 : Option Bool} {xd7 : Option Addr} {ma7 mb7 mc7 md7 mf7 : Option Value}
    {C8 : Addr}
    {xn8 xq8 : Str} {xN8 : Addr} {xb8 xu8 : List Value} {xs8 : List Str} {xv8 : Bool} {xo8 : Option Bool} {xd8 : Option Addr} {ma8 mb8 mc8 md8 mf8 : Option Value}
    {f8 : Addr} {oc8 kV8 dc8 pm8 cd8 ct8 : Value} {od8 an8 : Option Addr} {sl8 : Array (Option Value)}
    {C9 : Addr}
    {xn9 xq9 : Str} {xN9 : Addr} {xb9 xu9 : List Value} {xs9 : List Str} {xv9 : Bool} {xo9 : Option Bool} {xd9 : Option Addr} {ma9 mb9 mc9 md9 mf9 : Option Value}
    {f9 : Addr} {oc9 kV9 dc9 pm9 cd9 ct9 : Value} {od9 an9 : Option Addr} {sl9 : Array (Option Value)}
    {C10 : Addr}
    {xn10 xq10 : Str} {xN10 : Addr} {xb10 xu10 : List Value} {xs10 : List Str} {xv10 : Bool} {xo10 : Option Bool} {xd10 : Option Addr} {ma10 mb10 mc10 md10 mf10 : Option Value}
    {f10 : Addr} {oc10 kV10 dc10 pm10 cd10 ct10 : Value} {od10 an10 : Option Addr} {sl10 : Array (Option Value)}
    {C11 : Addr}
    {xn11 xq11 : Str} {xN11 : Addr} {xb11 xu11 : List Value} {xs11 : List Str} {xv11 : Bool} {xo11 : Option Bool} {xd11 : Option Addr} {ma11 mb11 mc11 md11 mf11 : Option Value}
    {f11 : Addr} {oc11 kV11 dc11 pm11 cd11 ct11 : Value} {od11 an11 : Option Addr} {sl11 : Array (Option Value)}
    {C12 : Addr}
    {xn12 xq12 : Str} {xN12 : Addr} {xb12 xu12 : List Value} {xs12 : List Str} {xv12 : Bool} {xo12 : Option Bool} {xd12 : Option Addr} {ma12 mb12 mc12 md12 mf12 : Option Value}
    {f12 : Addr} {oc12 kV12 dc12 pm12 cd12 ct12 : Value} {od12 an12 : Option Addr} {sl12 : Array (Option Value)}
    {C13 : Addr}
    {xn13 xq13 : Str} {xN13 : Addr} {xb13 xu13 : List Value} {xs13 : List Str} {xv13 : Bool} {xo13 : Option Bool} {xd13 : Option Addr} {ma13 mb13 mc13 md13 mf13 : Option Value}
    {f13 : Addr} {oc13 kV13 dc13 pm13 cd13 ct13 : Value} {od13 an13 : Option Addr} {sl13 : Array (Option Value)}
    {C14 : Addr}
    {xn14 xq14 : Str} {xN14 : Addr} {xb14 xu14 : List Value} {xs14 : List Str} {xv14 : Bool} {xo14 : Option Bool} {xd14 : Option Addr} {ma14 mb14 mc14 md14 mf14 : Option Value}
    {f14 : Addr} {oc14 kV14 dc14 pm14 cd14 ct14 : Value} {od14 an14 : Option Addr} {sl14 : Array (Option Value)}
    {C15 : Addr}
    {xn15 xq15 : Str} {xN15 : Addr} {xb15 xu15 : List Value} {xs15 : List Str} {xv15 : Bool} {xo15 : Option Bool} {xd15 : Option Addr} {ma15 mb15 mc15 md15 mf15 : Option Value}
    {f15 : Addr} {oc15 kV15 dc15 pm15 cd15 ct15 : Value} {od15 an15 : Option Addr} {sl15 : Array (Option Value)}
    {C16 : Addr}
    {xn16 xq16 : Str} {xN16 : Addr} {xb16 xu16 : List Value} {xs16 : List Str} {xv16 : Bool} {xo16 : Option Bool} {xd16 : Option Addr} {ma16 mb16 mc16 md16 mf16 : Option Value}
    {f16 : Addr} {oc16 kV16 dc16 pm16 cd16 ct16 : Value} {od16 an16 : Option Addr} {sl16 : Array (Option Value)}
    {C17 : Addr}
    {xn17 xq17 : Str} {xN17 : Addr} {xb17 xu17 : List Value} {xs17 : List Str} {xv17 : Bool} {xo17 : Option Bool} {xd17 : Option Addr} {ma17 mb17 mc17 md17 mf17 : Option Value}
    {f17 : Addr} {oc17 kV17 dc17 pm17 cd17 ct17 : Value} {od17 an17 : Option Addr} {sl17 : Array (Option Value)}
    {C18 : Addr}
    {xn18 xq18 : Str} {xN18 : Addr} {xb18 xu18 : List Value} {xs18 : List Str} {xv18 : Bool} {xo18 : Option Bool} {xd18 : Option Addr} {ma18 mb18 mc18 md18 mf18 : Option Value}
    {C19 : Addr}
    {xn19 xq19 : Str} {xN19 : Addr} {xb19 xu19 : List Value} {xs19 : List Str} {xv19 : Bool} {xo19 : Option Bool} {xd19 : Option Addr} {ma19 mb19 mc19 md19 mf19 : Option Value}
    {C20 : Addr}
    {xn20 xq20 : Str} {xN20 : Addr} {xb20 xu20 : List Value} {xs20 : List Str} {xv20 : Bool} {xo20 : Option Bool} {xd20 : Option Addr} {ma20 mb20 mc20 md20 mf20 : Option Value}
    {f20 : Addr} {oc20 kV20 dc20 pm20 cd20 ct20 : Value} {od20 an20 : Option Addr} {sl20 : Array (Option Value)}
    {C21 : Addr}
    {xn21 xq21 : Str} {xN21 : Addr} {xb21 xu21 : List Value} {xs21 : List Str} {xv21 : Bool} {xo21 : Option Bool} {xd21 : Option Addr} {ma21 mb21 mc21 md21 mf21 : Option Value}
    {f21 : Addr} {oc21 kV21 dc21 pm21 cd21 ct21 : Value} {od21 an21 : Option Addr} {sl21 : Array (Option Value)}
    {C22 : Addr}
    {xn22 xq22 : Str} {xN22 : Addr} {xb22 xu22 : List Value} {xs22 : List Str} {xv22 : Bool} {xo22 : Option Bool} {xd22 : Option Addr} {ma22 mb22 mc22 md22 mf22 : Option Value}
    {C23 : Addr}
    {xn23 xq23 : Str} {xN23 : Addr} {xb23 xu23 : List Value} {xs23 : List Str} {xv23 : Bool} {xo23 : Option Bool} {xd23 : Option Addr} {ma23 mb23 mc23 md23 mf23 : Option Value}
    {C24 : Addr}
    {xn24 xq24 : Str} {xN24 : Addr} {xb24 xu24 : List Value} {xs24 : List Str} {xv24 : Bool} {xo24 : Option Bool} {xd24 : Option Addr} {ma24 mb24 mc24 md24 mf24 : Option Value}
    {f24 : Addr} {oc24 kV24 dc24 pm24 cd24 ct24 : Value} {od24 an24 : Option Addr} {sl24 : Array (Option Value)}
    {fdraw : Addr} {ocdraw kVdraw dcdraw pmdraw cddraw ctdraw : Value} {oddraw andraw : Option Addr} {sldraw : Array (Option Value)}
    {fstart : Addr} {ocstart kVstart dcstart pmstart cdstart ctstart : Value} {odstart anstart : Option Addr} {slstart : Array (Option Value)}
    {fsame : Addr} {ocsame kVsame dcsame pmsame cdsame ctsame : Value} {odsame ansame : Option Addr} {slsame : Array (Option Value)}
    {fthing : Addr} {octhing kVthing dcthing pmthing cdthing ctthing : Value} {odthing anthing : Option Addr} {slthing : Array (Option Value)}
    {ftup : Addr} {octup kVtup dctup pmtup cdtup cttup : Value} {odtup antup : Option Addr} {sltup : Array (Option Value)}
    {ffirst : Addr} {ocfirst kVfirst dcfirst pmfirst cdfirst ctfirst : Value} {odfirst anfirst : Option Addr} {slfirst : Array (Option Value)}
    {fby : Addr} {ocby kVby dcby pmby cdby ctby : Value} {odby anby : Option Addr} {slby : Array (Option Value)}
    {fkinds : Addr} {ockinds kVkinds dckinds pmkinds cdkinds ctkinds : Value} {odkinds ankinds : Option Addr} {slkinds : Array (Option Value)}
    {flaw : Addr} {oclaw kVlaw dclaw pmlaw cdlaw ctlaw : Value} {odlaw anlaw : Option Addr} {sllaw : Array (Option Value)}
    (aT : PySem.W.nsIn K mainGlobals "ToldError" = some (some (.ref CT)))
    (xT : K.lookup CT = some (excClassObj xnT xqT CT xNT xbT bmV true xsT xuT xvT xoT xdT maT mbT mcT mdT mfT "ValueError.__new__"))
    (a0 : PySem.W.nsIn K mainGlobals "BadColumns" = some (some (.ref C0)))
    (x0 : K.lookup C0 = some (excClassObj xn0 xq0 C0 xN0 xb0 (bmT CT) true xs0 xu0 xv0 xo0 xd0 ma0 mb0 mc0 md0 mf0 "ValueError.__new__"))
    (sa0 : PySem.W.findIn K (.ref C0) "__setattr__" = some (some (.builtin "object.__setattr__")))
    (ga0 : PySem.W.findIn K (.ref C0) "__getattribute__" = some (some (.builtin "BaseException.__getattribute__")))
    (gg0 : PySem.W.findIn K (.ref C0) "__getattr__" = some none)
    (cl0 : PySem.W.findIn K (.ref C0) "__class__" = some (some (.builtin "object.__class__")))
    (kC0 : PySem.W.keepIn K (.ref C0) = true)
    (i0 : PySem.W.findIn K (.ref C0) "__init__" = some (some (.ref f0)))
    (t0 : PySem.W.typeIn K (.ref f0) = some (.type "function"))
    (no0 : PySem.W.findIn K (.ref C0) "index" = some none)
    (l0 : K.lookup f0 = some ⟨oc0, od0, .func (PySem.W.fnOf "__init__" "BadColumns.__init__" (defArgs (inClass (top 2) 0)) (defBody (inClass (top 2) 0)) (defScope (inClass (top 2) 0)) .none kV0 dc0 pm0 an0 cd0 ct0), sl0⟩)
    (c0 : PySem.W.codeIn K cd0 "BadColumns.__init__" = true)
    (kf0 : PySem.W.keepIn K (.ref f0) = true)
    (a1 : PySem.W.nsIn K mainGlobals "NoColumn" = some (some (.ref C1)))
    (x1 : K.lookup C1 = some (excClassObj xn1 xq1 C1 xN1 xb1 (bmT CT) true xs1 xu1 xv1 xo1 xd1 ma1 mb1 mc1 md1 mf1 "ValueError.__new__"))
    (sa1 : PySem.W.findIn K (.ref C1) "__setattr__" = some (some (.builtin "object.__setattr__")))
    (ga1 : PySem.W.findIn K (.ref C1) "__getattribute__" = some (some (.builtin "BaseException.__getattribute__")))
    (gg1 : PySem.W.findIn K (.ref C1) "__getattr__" = some none)
    (cl1 : PySem.W.findIn K (.ref C1) "__class__" = some (some (.builtin "object.__class__")))
    (kC1 : PySem.W.keepIn K (.ref C1) = true)
    (i1 : PySem.W.findIn K (.ref C1) "__init__" = some (some (.ref f1)))
    (t1 : PySem.W.typeIn K (.ref f1) = some (.type "function"))
    (no1 : PySem.W.findIn K (.ref C1) "name" = some none)
    (l1 : K.lookup f1 = some ⟨oc1, od1, .func (PySem.W.fnOf "__init__" "NoColumn.__init__" (defArgs (inClass (top 3) 0)) (defBody (inClass (top 3) 0)) (defScope (inClass (top 3) 0)) .none kV1 dc1 pm1 an1 cd1 ct1), sl1⟩)
    (c1 : PySem.W.codeIn K cd1 "NoColumn.__init__" = true)
    (kf1 : PySem.W.keepIn K (.ref f1) = true)
    (a2 : PySem.W.nsIn K mainGlobals "BadNumber" = some (some (.ref C2)))
    (x2 : K.lookup C2 = some (excClassObj xn2 xq2 C2 xN2 xb2 (bmT CT) true xs2 xu2 xv2 xo2 xd2 ma2 mb2 mc2 md2 mf2 "ValueError.__new__"))
    (sa2 : PySem.W.findIn K (.ref C2) "__setattr__" = some (some (.builtin "object.__setattr__")))
    (ga2 : PySem.W.findIn K (.ref C2) "__getattribute__" = some (some (.builtin "BaseException.__getattribute__")))
    (gg2 : PySem.W.findIn K (.ref C2) "__getattr__" = some none)
    (cl2 : PySem.W.findIn K (.ref C2) "__class__" = some (some (.builtin "object.__class__")))
    (kC2 : PySem.W.keepIn K (.ref C2) = true)
    (i2 : PySem.W.findIn K (.ref C2) "__init__" = some (some (.ref f2)))
    (t2 : PySem.W.typeIn K (.ref f2) = some (.type "function"))
    (no2 : PySem.W.findIn K (.ref C2) "number" = some none)
    (l2 : K.lookup f2 = some ⟨oc2, od2, .func (PySem.W.fnOf "__init__" "BadNumber.__init__" (defArgs (inClass (top 4) 0)) (defBody (inClass (top 4) 0)) (defScope (inClass (top 4) 0)) .none kV2 dc2 pm2 an2 cd2 ct2), sl2⟩)
    (c2 : PySem.W.codeIn K cd2 "BadNumber.__init__" = true)
    (kf2 : PySem.W.keepIn K (.ref f2) = true)
    (a3 : PySem.W.nsIn K mainGlobals "BadRow" = some (some (.ref C3)))
    (x3 : K.lookup C3 = some (excClassObj xn3 xq3 C3 xN3 xb3 (bmT CT) true xs3 xu3 xv3 xo3 xd3 ma3 mb3 mc3 md3 mf3 "ValueError.__new__"))
    (sa3 : PySem.W.findIn K (.ref C3) "__setattr__" = some (some (.builtin "object.__setattr__")))
    (ga3 : PySem.W.findIn K (.ref C3) "__getattribute__" = some (some (.builtin "BaseException.__getattribute__")))
    (gg3 : PySem.W.findIn K (.ref C3) "__getattr__" = some none)
    (cl3 : PySem.W.findIn K (.ref C3) "__class__" = some (some (.builtin "object.__class__")))
    (kC3 : PySem.W.keepIn K (.ref C3) = true)
    (i3 : PySem.W.findIn K (.ref C3) "__init__" = some (some (.ref f3)))
    (t3 : PySem.W.typeIn K (.ref f3) = some (.type "function"))
    (no3 : PySem.W.findIn K (.ref C3) "number" = some none)
    (l3 : K.lookup f3 = some ⟨oc3, od3, .func (PySem.W.fnOf "__init__" "BadRow.__init__" (defArgs (inClass (top 5) 0)) (defBody (inClass (top 5) 0)) (defScope (inClass (top 5) 0)) .none kV3 dc3 pm3 an3 cd3 ct3), sl3⟩)
    (c3 : PySem.W.codeIn K cd3 "BadRow.__init__" = true)
    (kf3 : PySem.W.keepIn K (.ref f3) = true)
    (a4 : PySem.W.nsIn K mainGlobals "BadFollowing" = some (some (.ref C4)))
    (x4 : K.lookup C4 = some (excClassObj xn4 xq4 C4 xN4 xb4 (bmT CT) true xs4 xu4 xv4 xo4 xd4 ma4 mb4 mc4 md4 mf4 "ValueError.__new__"))
    (sa4 : PySem.W.findIn K (.ref C4) "__setattr__" = some (some (.builtin "object.__setattr__")))
    (ga4 : PySem.W.findIn K (.ref C4) "__getattribute__" = some (some (.builtin "BaseException.__getattribute__")))
    (gg4 : PySem.W.findIn K (.ref C4) "__getattr__" = some none)
    (cl4 : PySem.W.findIn K (.ref C4) "__class__" = some (some (.builtin "object.__class__")))
    (kC4 : PySem.W.keepIn K (.ref C4) = true)
    (i4 : PySem.W.findIn K (.ref C4) "__init__" = some (some (.ref f4)))
    (t4 : PySem.W.typeIn K (.ref f4) = some (.type "function"))
    (no4 : PySem.W.findIn K (.ref C4) "following" = some none)
    (l4 : K.lookup f4 = some ⟨oc4, od4, .func (PySem.W.fnOf "__init__" "BadFollowing.__init__" (defArgs (inClass (top 6) 0)) (defBody (inClass (top 6) 0)) (defScope (inClass (top 6) 0)) .none kV4 dc4 pm4 an4 cd4 ct4), sl4⟩)
    (c4 : PySem.W.codeIn K cd4 "BadFollowing.__init__" = true)
    (kf4 : PySem.W.keepIn K (.ref f4) = true)
    (a5 : PySem.W.nsIn K mainGlobals "NoRow" = some (some (.ref C5)))
    (x5 : K.lookup C5 = some (excClassObj xn5 xq5 C5 xN5 xb5 (bmT CT) true xs5 xu5 xv5 xo5 xd5 ma5 mb5 mc5 md5 mf5 "ValueError.__new__"))
    (sa5 : PySem.W.findIn K (.ref C5) "__setattr__" = some (some (.builtin "object.__setattr__")))
    (ga5 : PySem.W.findIn K (.ref C5) "__getattribute__" = some (some (.builtin "BaseException.__getattribute__")))
    (gg5 : PySem.W.findIn K (.ref C5) "__getattr__" = some none)
    (cl5 : PySem.W.findIn K (.ref C5) "__class__" = some (some (.builtin "object.__class__")))
    (kC5 : PySem.W.keepIn K (.ref C5) = true)
    (i5 : PySem.W.findIn K (.ref C5) "__init__" = some (some (.ref f5)))
    (t5 : PySem.W.typeIn K (.ref f5) = some (.type "function"))
    (no5 : PySem.W.findIn K (.ref C5) "number" = some none)
    (l5 : K.lookup f5 = some ⟨oc5, od5, .func (PySem.W.fnOf "__init__" "NoRow.__init__" (defArgs (inClass (top 7) 0)) (defBody (inClass (top 7) 0)) (defScope (inClass (top 7) 0)) .none kV5 dc5 pm5 an5 cd5 ct5), sl5⟩)
    (c5 : PySem.W.codeIn K cd5 "NoRow.__init__" = true)
    (kf5 : PySem.W.keepIn K (.ref f5) = true)
    (a6 : PySem.W.nsIn K mainGlobals "BadLook" = some (some (.ref C6)))
    (x6 : K.lookup C6 = some (excClassObj xn6 xq6 C6 xN6 xb6 (bmT CT) true xs6 xu6 xv6 xo6 xd6 ma6 mb6 mc6 md6 mf6 "ValueError.__new__"))
    (sa6 : PySem.W.findIn K (.ref C6) "__setattr__" = some (some (.builtin "object.__setattr__")))
    (ga6 : PySem.W.findIn K (.ref C6) "__getattribute__" = some (some (.builtin "BaseException.__getattribute__")))
    (gg6 : PySem.W.findIn K (.ref C6) "__getattr__" = some none)
    (cl6 : PySem.W.findIn K (.ref C6) "__class__" = some (some (.builtin "object.__class__")))
    (kC6 : PySem.W.keepIn K (.ref C6) = true)
    (i6 : PySem.W.findIn K (.ref C6) "__init__" = some (some (.ref f6)))
    (t6 : PySem.W.typeIn K (.ref f6) = some (.type "function"))
    (no6 : PySem.W.findIn K (.ref C6) "given" = some none)
    (l6 : K.lookup f6 = some ⟨oc6, od6, .func (PySem.W.fnOf "__init__" "BadLook.__init__" (defArgs (inClass (top 8) 0)) (defBody (inClass (top 8) 0)) (defScope (inClass (top 8) 0)) .none kV6 dc6 pm6 an6 cd6 ct6), sl6⟩)
    (c6 : PySem.W.codeIn K cd6 "BadLook.__init__" = true)
    (kf6 : PySem.W.keepIn K (.ref f6) = true)
    (a7 : PySem.W.nsIn K mainGlobals "UnlikeColumns" = some (some (.ref C7)))
    (x7 : K.lookup C7 = some (excClassObj xn7 xq7 C7 xN7 xb7 (bmT CT) true xs7 xu7 xv7 xo7 xd7 ma7 mb7 mc7 md7 mf7 "ValueError.__new__"))
    (sa7 : PySem.W.findIn K (.ref C7) "__setattr__" = some (some (.builtin "object.__setattr__")))
    (ga7 : PySem.W.findIn K (.ref C7) "__getattribute__" = some (some (.builtin "BaseException.__getattribute__")))
    (gg7 : PySem.W.findIn K (.ref C7) "__getattr__" = some none)
    (cl7 : PySem.W.findIn K (.ref C7) "__class__" = some (some (.builtin "object.__class__")))
    (kC7 : PySem.W.keepIn K (.ref C7) = true)
    (ex7 : PySem.W.excIn K C7 [.type "ValueError", .type "Exception", .type "BaseException", .type "object"] "ValueError.__new__" = true)
    (a8 : PySem.W.nsIn K mainGlobals "BadStatement" = some (some (.ref C8)))
    (x8 : K.lookup C8 = some (excClassObj xn8 xq8 C8 xN8 xb8 (bmT CT) true xs8 xu8 xv8 xo8 xd8 ma8 mb8 mc8 md8 mf8 "ValueError.__new__"))
    (sa8 : PySem.W.findIn K (.ref C8) "__setattr__" = some (some (.builtin "object.__setattr__")))
    (ga8 : PySem.W.findIn K (.ref C8) "__getattribute__" = some (some (.builtin "BaseException.__getattribute__")))
    (gg8 : PySem.W.findIn K (.ref C8) "__getattr__" = some none)
    (cl8 : PySem.W.findIn K (.ref C8) "__class__" = some (some (.builtin "object.__class__")))
    (kC8 : PySem.W.keepIn K (.ref C8) = true)
    (i8 : PySem.W.findIn K (.ref C8) "__init__" = some (some (.ref f8)))
    (t8 : PySem.W.typeIn K (.ref f8) = some (.type "function"))
    (no8 : PySem.W.findIn K (.ref C8) "part" = some none)
    (l8 : K.lookup f8 = some ⟨oc8, od8, .func (PySem.W.fnOf "__init__" "BadStatement.__init__" (defArgs (inClass (top 10) 0)) (defBody (inClass (top 10) 0)) (defScope (inClass (top 10) 0)) .none kV8 dc8 pm8 an8 cd8 ct8), sl8⟩)
    (c8 : PySem.W.codeIn K cd8 "BadStatement.__init__" = true)
    (kf8 : PySem.W.keepIn K (.ref f8) = true)
    (a9 : PySem.W.nsIn K mainGlobals "BadTrigger" = some (some (.ref C9)))
    (x9 : K.lookup C9 = some (excClassObj xn9 xq9 C9 xN9 xb9 (bmT CT) true xs9 xu9 xv9 xo9 xd9 ma9 mb9 mc9 md9 mf9 "ValueError.__new__"))
    (sa9 : PySem.W.findIn K (.ref C9) "__setattr__" = some (some (.builtin "object.__setattr__")))
    (ga9 : PySem.W.findIn K (.ref C9) "__getattribute__" = some (some (.builtin "BaseException.__getattribute__")))
    (gg9 : PySem.W.findIn K (.ref C9) "__getattr__" = some none)
    (cl9 : PySem.W.findIn K (.ref C9) "__class__" = some (some (.builtin "object.__class__")))
    (kC9 : PySem.W.keepIn K (.ref C9) = true)
    (i9 : PySem.W.findIn K (.ref C9) "__init__" = some (some (.ref f9)))
    (t9 : PySem.W.typeIn K (.ref f9) = some (.type "function"))
    (no9 : PySem.W.findIn K (.ref C9) "part" = some none)
    (l9 : K.lookup f9 = some ⟨oc9, od9, .func (PySem.W.fnOf "__init__" "BadTrigger.__init__" (defArgs (inClass (top 11) 0)) (defBody (inClass (top 11) 0)) (defScope (inClass (top 11) 0)) .none kV9 dc9 pm9 an9 cd9 ct9), sl9⟩)
    (c9 : PySem.W.codeIn K cd9 "BadTrigger.__init__" = true)
    (kf9 : PySem.W.keepIn K (.ref f9) = true)
    (a10 : PySem.W.nsIn K mainGlobals "BadScript" = some (some (.ref C10)))
    (x10 : K.lookup C10 = some (excClassObj xn10 xq10 C10 xN10 xb10 (bmT CT) true xs10 xu10 xv10 xo10 xd10 ma10 mb10 mc10 md10 mf10 "ValueError.__new__"))
    (sa10 : PySem.W.findIn K (.ref C10) "__setattr__" = some (some (.builtin "object.__setattr__")))
    (ga10 : PySem.W.findIn K (.ref C10) "__getattribute__" = some (some (.builtin "BaseException.__getattribute__")))
    (gg10 : PySem.W.findIn K (.ref C10) "__getattr__" = some none)
    (cl10 : PySem.W.findIn K (.ref C10) "__class__" = some (some (.builtin "object.__class__")))
    (kC10 : PySem.W.keepIn K (.ref C10) = true)
    (i10 : PySem.W.findIn K (.ref C10) "__init__" = some (some (.ref f10)))
    (t10 : PySem.W.typeIn K (.ref f10) = some (.type "function"))
    (no10 : PySem.W.findIn K (.ref C10) "index" = some none)
    (l10 : K.lookup f10 = some ⟨oc10, od10, .func (PySem.W.fnOf "__init__" "BadScript.__init__" (defArgs (inClass (top 12) 0)) (defBody (inClass (top 12) 0)) (defScope (inClass (top 12) 0)) .none kV10 dc10 pm10 an10 cd10 ct10), sl10⟩)
    (c10 : PySem.W.codeIn K cd10 "BadScript.__init__" = true)
    (kf10 : PySem.W.keepIn K (.ref f10) = true)
    (a11 : PySem.W.nsIn K mainGlobals "NoStatement" = some (some (.ref C11)))
    (x11 : K.lookup C11 = some (excClassObj xn11 xq11 C11 xN11 xb11 (bmT CT) true xs11 xu11 xv11 xo11 xd11 ma11 mb11 mc11 md11 mf11 "ValueError.__new__"))
    (sa11 : PySem.W.findIn K (.ref C11) "__setattr__" = some (some (.builtin "object.__setattr__")))
    (ga11 : PySem.W.findIn K (.ref C11) "__getattribute__" = some (some (.builtin "BaseException.__getattribute__")))
    (gg11 : PySem.W.findIn K (.ref C11) "__getattr__" = some none)
    (cl11 : PySem.W.findIn K (.ref C11) "__class__" = some (some (.builtin "object.__class__")))
    (kC11 : PySem.W.keepIn K (.ref C11) = true)
    (i11 : PySem.W.findIn K (.ref C11) "__init__" = some (some (.ref f11)))
    (t11 : PySem.W.typeIn K (.ref f11) = some (.type "function"))
    (no11 : PySem.W.findIn K (.ref C11) "index" = some none)
    (l11 : K.lookup f11 = some ⟨oc11, od11, .func (PySem.W.fnOf "__init__" "NoStatement.__init__" (defArgs (inClass (top 13) 0)) (defBody (inClass (top 13) 0)) (defScope (inClass (top 13) 0)) .none kV11 dc11 pm11 an11 cd11 ct11), sl11⟩)
    (c11 : PySem.W.codeIn K cd11 "NoStatement.__init__" = true)
    (kf11 : PySem.W.keepIn K (.ref f11) = true)
    (a12 : PySem.W.nsIn K mainGlobals "NotPlain" = some (some (.ref C12)))
    (x12 : K.lookup C12 = some (excClassObj xn12 xq12 C12 xN12 xb12 (bmT CT) true xs12 xu12 xv12 xo12 xd12 ma12 mb12 mc12 md12 mf12 "ValueError.__new__"))
    (sa12 : PySem.W.findIn K (.ref C12) "__setattr__" = some (some (.builtin "object.__setattr__")))
    (ga12 : PySem.W.findIn K (.ref C12) "__getattribute__" = some (some (.builtin "BaseException.__getattribute__")))
    (gg12 : PySem.W.findIn K (.ref C12) "__getattr__" = some none)
    (cl12 : PySem.W.findIn K (.ref C12) "__class__" = some (some (.builtin "object.__class__")))
    (kC12 : PySem.W.keepIn K (.ref C12) = true)
    (i12 : PySem.W.findIn K (.ref C12) "__init__" = some (some (.ref f12)))
    (t12 : PySem.W.typeIn K (.ref f12) = some (.type "function"))
    (no12 : PySem.W.findIn K (.ref C12) "index" = some none)
    (l12 : K.lookup f12 = some ⟨oc12, od12, .func (PySem.W.fnOf "__init__" "NotPlain.__init__" (defArgs (inClass (top 14) 0)) (defBody (inClass (top 14) 0)) (defScope (inClass (top 14) 0)) .none kV12 dc12 pm12 an12 cd12 ct12), sl12⟩)
    (c12 : PySem.W.codeIn K cd12 "NotPlain.__init__" = true)
    (kf12 : PySem.W.keepIn K (.ref f12) = true)
    (a13 : PySem.W.nsIn K mainGlobals "BadDealings" = some (some (.ref C13)))
    (x13 : K.lookup C13 = some (excClassObj xn13 xq13 C13 xN13 xb13 (bmT CT) true xs13 xu13 xv13 xo13 xd13 ma13 mb13 mc13 md13 mf13 "ValueError.__new__"))
    (sa13 : PySem.W.findIn K (.ref C13) "__setattr__" = some (some (.builtin "object.__setattr__")))
    (ga13 : PySem.W.findIn K (.ref C13) "__getattribute__" = some (some (.builtin "BaseException.__getattribute__")))
    (gg13 : PySem.W.findIn K (.ref C13) "__getattr__" = some none)
    (cl13 : PySem.W.findIn K (.ref C13) "__class__" = some (some (.builtin "object.__class__")))
    (kC13 : PySem.W.keepIn K (.ref C13) = true)
    (i13 : PySem.W.findIn K (.ref C13) "__init__" = some (some (.ref f13)))
    (t13 : PySem.W.typeIn K (.ref f13) = some (.type "function"))
    (no13 : PySem.W.findIn K (.ref C13) "index" = some none)
    (l13 : K.lookup f13 = some ⟨oc13, od13, .func (PySem.W.fnOf "__init__" "BadDealings.__init__" (defArgs (inClass (top 15) 0)) (defBody (inClass (top 15) 0)) (defScope (inClass (top 15) 0)) .none kV13 dc13 pm13 an13 cd13 ct13), sl13⟩)
    (c13 : PySem.W.codeIn K cd13 "BadDealings.__init__" = true)
    (kf13 : PySem.W.keepIn K (.ref f13) = true)
    (a14 : PySem.W.nsIn K mainGlobals "BadLevel" = some (some (.ref C14)))
    (x14 : K.lookup C14 = some (excClassObj xn14 xq14 C14 xN14 xb14 (bmT CT) true xs14 xu14 xv14 xo14 xd14 ma14 mb14 mc14 md14 mf14 "ValueError.__new__"))
    (sa14 : PySem.W.findIn K (.ref C14) "__setattr__" = some (some (.builtin "object.__setattr__")))
    (ga14 : PySem.W.findIn K (.ref C14) "__getattribute__" = some (some (.builtin "BaseException.__getattribute__")))
    (gg14 : PySem.W.findIn K (.ref C14) "__getattr__" = some none)
    (cl14 : PySem.W.findIn K (.ref C14) "__class__" = some (some (.builtin "object.__class__")))
    (kC14 : PySem.W.keepIn K (.ref C14) = true)
    (i14 : PySem.W.findIn K (.ref C14) "__init__" = some (some (.ref f14)))
    (t14 : PySem.W.typeIn K (.ref f14) = some (.type "function"))
    (no14 : PySem.W.findIn K (.ref C14) "level" = some none)
    (l14 : K.lookup f14 = some ⟨oc14, od14, .func (PySem.W.fnOf "__init__" "BadLevel.__init__" (defArgs (inClass (top 16) 0)) (defBody (inClass (top 16) 0)) (defScope (inClass (top 16) 0)) .none kV14 dc14 pm14 an14 cd14 ct14), sl14⟩)
    (c14 : PySem.W.codeIn K cd14 "BadLevel.__init__" = true)
    (kf14 : PySem.W.keepIn K (.ref f14) = true)
    (a15 : PySem.W.nsIn K mainGlobals "BadOrder" = some (some (.ref C15)))
    (x15 : K.lookup C15 = some (excClassObj xn15 xq15 C15 xN15 xb15 (bmT CT) true xs15 xu15 xv15 xo15 xd15 ma15 mb15 mc15 md15 mf15 "ValueError.__new__"))
    (sa15 : PySem.W.findIn K (.ref C15) "__setattr__" = some (some (.builtin "object.__setattr__")))
    (ga15 : PySem.W.findIn K (.ref C15) "__getattribute__" = some (some (.builtin "BaseException.__getattribute__")))
    (gg15 : PySem.W.findIn K (.ref C15) "__getattr__" = some none)
    (cl15 : PySem.W.findIn K (.ref C15) "__class__" = some (some (.builtin "object.__class__")))
    (kC15 : PySem.W.keepIn K (.ref C15) = true)
    (i15 : PySem.W.findIn K (.ref C15) "__init__" = some (some (.ref f15)))
    (t15 : PySem.W.typeIn K (.ref f15) = some (.type "function"))
    (no15 : PySem.W.findIn K (.ref C15) "order" = some none)
    (l15 : K.lookup f15 = some ⟨oc15, od15, .func (PySem.W.fnOf "__init__" "BadOrder.__init__" (defArgs (inClass (top 17) 0)) (defBody (inClass (top 17) 0)) (defScope (inClass (top 17) 0)) .none kV15 dc15 pm15 an15 cd15 ct15), sl15⟩)
    (c15 : PySem.W.codeIn K cd15 "BadOrder.__init__" = true)
    (kf15 : PySem.W.keepIn K (.ref f15) = true)
    (a16 : PySem.W.nsIn K mainGlobals "BadWord" = some (some (.ref C16)))
    (x16 : K.lookup C16 = some (excClassObj xn16 xq16 C16 xN16 xb16 (bmT CT) true xs16 xu16 xv16 xo16 xd16 ma16 mb16 mc16 md16 mf16 "ValueError.__new__"))
    (sa16 : PySem.W.findIn K (.ref C16) "__setattr__" = some (some (.builtin "object.__setattr__")))
    (ga16 : PySem.W.findIn K (.ref C16) "__getattribute__" = some (some (.builtin "BaseException.__getattribute__")))
    (gg16 : PySem.W.findIn K (.ref C16) "__getattr__" = some none)
    (cl16 : PySem.W.findIn K (.ref C16) "__class__" = some (some (.builtin "object.__class__")))
    (kC16 : PySem.W.keepIn K (.ref C16) = true)
    (i16 : PySem.W.findIn K (.ref C16) "__init__" = some (some (.ref f16)))
    (t16 : PySem.W.typeIn K (.ref f16) = some (.type "function"))
    (no16 : PySem.W.findIn K (.ref C16) "word" = some none)
    (l16 : K.lookup f16 = some ⟨oc16, od16, .func (PySem.W.fnOf "__init__" "BadWord.__init__" (defArgs (inClass (top 18) 0)) (defBody (inClass (top 18) 0)) (defScope (inClass (top 18) 0)) .none kV16 dc16 pm16 an16 cd16 ct16), sl16⟩)
    (c16 : PySem.W.codeIn K cd16 "BadWord.__init__" = true)
    (kf16 : PySem.W.keepIn K (.ref f16) = true)
    (a17 : PySem.W.nsIn K mainGlobals "Barred" = some (some (.ref C17)))
    (x17 : K.lookup C17 = some (excClassObj xn17 xq17 C17 xN17 xb17 (bmT CT) true xs17 xu17 xv17 xo17 xd17 ma17 mb17 mc17 md17 mf17 "ValueError.__new__"))
    (sa17 : PySem.W.findIn K (.ref C17) "__setattr__" = some (some (.builtin "object.__setattr__")))
    (ga17 : PySem.W.findIn K (.ref C17) "__getattribute__" = some (some (.builtin "BaseException.__getattribute__")))
    (gg17 : PySem.W.findIn K (.ref C17) "__getattr__" = some none)
    (cl17 : PySem.W.findIn K (.ref C17) "__class__" = some (some (.builtin "object.__class__")))
    (kC17 : PySem.W.keepIn K (.ref C17) = true)
    (i17 : PySem.W.findIn K (.ref C17) "__init__" = some (some (.ref f17)))
    (t17 : PySem.W.typeIn K (.ref f17) = some (.type "function"))
    (no17 : PySem.W.findIn K (.ref C17) "dealing" = some none)
    (l17 : K.lookup f17 = some ⟨oc17, od17, .func (PySem.W.fnOf "__init__" "Barred.__init__" (defArgs (inClass (top 19) 0)) (defBody (inClass (top 19) 0)) (defScope (inClass (top 19) 0)) .none kV17 dc17 pm17 an17 cd17 ct17), sl17⟩)
    (c17 : PySem.W.codeIn K cd17 "Barred.__init__" = true)
    (kf17 : PySem.W.keepIn K (.ref f17) = true)
    (a18 : PySem.W.nsIn K mainGlobals "Busy" = some (some (.ref C18)))
    (x18 : K.lookup C18 = some (excClassObj xn18 xq18 C18 xN18 xb18 (bmT CT) true xs18 xu18 xv18 xo18 xd18 ma18 mb18 mc18 md18 mf18 "ValueError.__new__"))
    (sa18 : PySem.W.findIn K (.ref C18) "__setattr__" = some (some (.builtin "object.__setattr__")))
    (ga18 : PySem.W.findIn K (.ref C18) "__getattribute__" = some (some (.builtin "BaseException.__getattribute__")))
    (gg18 : PySem.W.findIn K (.ref C18) "__getattr__" = some none)
    (cl18 : PySem.W.findIn K (.ref C18) "__class__" = some (some (.builtin "object.__class__")))
    (kC18 : PySem.W.keepIn K (.ref C18) = true)
    (ex18 : PySem.W.excIn K C18 [.type "ValueError", .type "Exception", .type "BaseException", .type "object"] "ValueError.__new__" = true)
    (a19 : PySem.W.nsIn K mainGlobals "Closed" = some (some (.ref C19)))
    (x19 : K.lookup C19 = some (excClassObj xn19 xq19 C19 xN19 xb19 (bmT CT) true xs19 xu19 xv19 xo19 xd19 ma19 mb19 mc19 md19 mf19 "ValueError.__new__"))
    (sa19 : PySem.W.findIn K (.ref C19) "__setattr__" = some (some (.builtin "object.__setattr__")))
    (ga19 : PySem.W.findIn K (.ref C19) "__getattribute__" = some (some (.builtin "BaseException.__getattribute__")))
    (gg19 : PySem.W.findIn K (.ref C19) "__getattr__" = some none)
    (cl19 : PySem.W.findIn K (.ref C19) "__class__" = some (some (.builtin "object.__class__")))
    (kC19 : PySem.W.keepIn K (.ref C19) = true)
    (ex19 : PySem.W.excIn K C19 [.type "ValueError", .type "Exception", .type "BaseException", .type "object"] "ValueError.__new__" = true)
    (a20 : PySem.W.nsIn K mainGlobals "Halted" = some (some (.ref C20)))
    (x20 : K.lookup C20 = some (excClassObj xn20 xq20 C20 xN20 xb20 (bmT CT) true xs20 xu20 xv20 xo20 xd20 ma20 mb20 mc20 md20 mf20 "ValueError.__new__"))
    (sa20 : PySem.W.findIn K (.ref C20) "__setattr__" = some (some (.builtin "object.__setattr__")))
    (ga20 : PySem.W.findIn K (.ref C20) "__getattribute__" = some (some (.builtin "BaseException.__getattribute__")))
    (gg20 : PySem.W.findIn K (.ref C20) "__getattr__" = some none)
    (cl20 : PySem.W.findIn K (.ref C20) "__class__" = some (some (.builtin "object.__class__")))
    (kC20 : PySem.W.keepIn K (.ref C20) = true)
    (i20 : PySem.W.findIn K (.ref C20) "__init__" = some (some (.ref f20)))
    (t20 : PySem.W.typeIn K (.ref f20) = some (.type "function"))
    (no20 : PySem.W.findIn K (.ref C20) "place" = some none)
    (l20 : K.lookup f20 = some ⟨oc20, od20, .func (PySem.W.fnOf "__init__" "Halted.__init__" (defArgs (inClass (top 22) 0)) (defBody (inClass (top 22) 0)) (defScope (inClass (top 22) 0)) .none kV20 dc20 pm20 an20 cd20 ct20), sl20⟩)
    (c20 : PySem.W.codeIn K cd20 "Halted.__init__" = true)
    (kf20 : PySem.W.keepIn K (.ref f20) = true)
    (a21 : PySem.W.nsIn K mainGlobals "NoEntry" = some (some (.ref C21)))
    (x21 : K.lookup C21 = some (excClassObj xn21 xq21 C21 xN21 xb21 (bmT CT) true xs21 xu21 xv21 xo21 xd21 ma21 mb21 mc21 md21 mf21 "ValueError.__new__"))
    (sa21 : PySem.W.findIn K (.ref C21) "__setattr__" = some (some (.builtin "object.__setattr__")))
    (ga21 : PySem.W.findIn K (.ref C21) "__getattribute__" = some (some (.builtin "BaseException.__getattribute__")))
    (gg21 : PySem.W.findIn K (.ref C21) "__getattr__" = some none)
    (cl21 : PySem.W.findIn K (.ref C21) "__class__" = some (some (.builtin "object.__class__")))
    (kC21 : PySem.W.keepIn K (.ref C21) = true)
    (i21 : PySem.W.findIn K (.ref C21) "__init__" = some (some (.ref f21)))
    (t21 : PySem.W.typeIn K (.ref f21) = some (.type "function"))
    (no21 : PySem.W.findIn K (.ref C21) "place" = some none)
    (l21 : K.lookup f21 = some ⟨oc21, od21, .func (PySem.W.fnOf "__init__" "NoEntry.__init__" (defArgs (inClass (top 23) 0)) (defBody (inClass (top 23) 0)) (defScope (inClass (top 23) 0)) .none kV21 dc21 pm21 an21 cd21 ct21), sl21⟩)
    (c21 : PySem.W.codeIn K cd21 "NoEntry.__init__" = true)
    (kf21 : PySem.W.keepIn K (.ref f21) = true)
    (a22 : PySem.W.nsIn K mainGlobals "NoWords" = some (some (.ref C22)))
    (x22 : K.lookup C22 = some (excClassObj xn22 xq22 C22 xN22 xb22 (bmT CT) true xs22 xu22 xv22 xo22 xd22 ma22 mb22 mc22 md22 mf22 "ValueError.__new__"))
    (sa22 : PySem.W.findIn K (.ref C22) "__setattr__" = some (some (.builtin "object.__setattr__")))
    (ga22 : PySem.W.findIn K (.ref C22) "__getattribute__" = some (some (.builtin "BaseException.__getattribute__")))
    (gg22 : PySem.W.findIn K (.ref C22) "__getattr__" = some none)
    (cl22 : PySem.W.findIn K (.ref C22) "__class__" = some (some (.builtin "object.__class__")))
    (kC22 : PySem.W.keepIn K (.ref C22) = true)
    (ex22 : PySem.W.excIn K C22 [.type "ValueError", .type "Exception", .type "BaseException", .type "object"] "ValueError.__new__" = true)
    (a23 : PySem.W.nsIn K mainGlobals "Refused" = some (some (.ref C23)))
    (x23 : K.lookup C23 = some (excClassObj xn23 xq23 C23 xN23 xb23 (bmT CT) true xs23 xu23 xv23 xo23 xd23 ma23 mb23 mc23 md23 mf23 "ValueError.__new__"))
    (sa23 : PySem.W.findIn K (.ref C23) "__setattr__" = some (some (.builtin "object.__setattr__")))
    (ga23 : PySem.W.findIn K (.ref C23) "__getattribute__" = some (some (.builtin "BaseException.__getattribute__")))
    (gg23 : PySem.W.findIn K (.ref C23) "__getattr__" = some none)
    (cl23 : PySem.W.findIn K (.ref C23) "__class__" = some (some (.builtin "object.__class__")))
    (kC23 : PySem.W.keepIn K (.ref C23) = true)
    (ex23 : PySem.W.excIn K C23 [.type "ValueError", .type "Exception", .type "BaseException", .type "object"] "ValueError.__new__" = true)
    (a24 : PySem.W.nsIn K mainGlobals "BadText" = some (some (.ref C24)))
    (x24 : K.lookup C24 = some (excClassObj xn24 xq24 C24 xN24 xb24 (bmT CT) true xs24 xu24 xv24 xo24 xd24 ma24 mb24 mc24 md24 mf24 "ValueError.__new__"))
    (sa24 : PySem.W.findIn K (.ref C24) "__setattr__" = some (some (.builtin "object.__setattr__")))
    (ga24 : PySem.W.findIn K (.ref C24) "__getattribute__" = some (some (.builtin "BaseException.__getattribute__")))
    (gg24 : PySem.W.findIn K (.ref C24) "__getattr__" = some none)
    (cl24 : PySem.W.findIn K (.ref C24) "__class__" = some (some (.builtin "object.__class__")))
    (kC24 : PySem.W.keepIn K (.ref C24) = true)
    (i24 : PySem.W.findIn K (.ref C24) "__init__" = some (some (.ref f24)))
    (t24 : PySem.W.typeIn K (.ref f24) = some (.type "function"))
    (no24 : PySem.W.findIn K (.ref C24) "line" = some none)
    (l24 : K.lookup f24 = some ⟨oc24, od24, .func (PySem.W.fnOf "__init__" "BadText.__init__" (defArgs (inClass (top 26) 0)) (defBody (inClass (top 26) 0)) (defScope (inClass (top 26) 0)) .none kV24 dc24 pm24 an24 cd24 ct24), sl24⟩)
    (c24 : PySem.W.codeIn K cd24 "BadText.__init__" = true)
    (kf24 : PySem.W.keepIn K (.ref f24) = true)
    (adraw : PySem.W.nsIn K mainGlobals "_law_draw" = some (some (.ref fdraw)))
    (ldraw : K.lookup fdraw = some ⟨ocdraw, oddraw, .func (PySem.W.fnOf "_law_draw" "_law_draw" (defArgs sDraw) (defBody sDraw) (defScope sDraw) .none kVdraw dcdraw pmdraw andraw cddraw ctdraw), sldraw⟩)
    (cdraw : PySem.W.codeIn K cddraw "_law_draw" = true)
    (kdraw : PySem.W.keepIn K (.ref fdraw) = true)
    (astart : PySem.W.nsIn K mainGlobals "_law_start" = some (some (.ref fstart)))
    (lstart : K.lookup fstart = some ⟨ocstart, odstart, .func (PySem.W.fnOf "_law_start" "_law_start" (defArgs sStart) (defBody sStart) (defScope sStart) .none kVstart dcstart pmstart anstart cdstart ctstart), slstart⟩)
    (cstart : PySem.W.codeIn K cdstart "_law_start" = true)
    (kstart : PySem.W.keepIn K (.ref fstart) = true)
    (asame : PySem.W.nsIn K mainGlobals "_law_same" = some (some (.ref fsame)))
    (lsame : K.lookup fsame = some ⟨ocsame, odsame, .func (PySem.W.fnOf "_law_same" "_law_same" (defArgs sSame) (defBody sSame) (defScope sSame) .none kVsame dcsame pmsame ansame cdsame ctsame), slsame⟩)
    (csame : PySem.W.codeIn K cdsame "_law_same" = true)
    (ksame : PySem.W.keepIn K (.ref fsame) = true)
    (athing : PySem.W.nsIn K mainGlobals "_law_thing" = some (some (.ref fthing)))
    (lthing : K.lookup fthing = some ⟨octhing, odthing, .func (PySem.W.fnOf "_law_thing" "_law_thing" (defArgs sThing) (defBody sThing) (defScope sThing) .none kVthing dcthing pmthing anthing cdthing ctthing), slthing⟩)
    (cthing : PySem.W.codeIn K cdthing "_law_thing" = true)
    (kthing : PySem.W.keepIn K (.ref fthing) = true)
    (atup : PySem.W.nsIn K mainGlobals "_law_tupled" = some (some (.ref ftup)))
    (ltup : K.lookup ftup = some ⟨octup, odtup, .func (PySem.W.fnOf "_law_tupled" "_law_tupled" (defArgs sTup) (defBody sTup) (defScope sTup) .none kVtup dctup pmtup antup cdtup cttup), sltup⟩)
    (ctup : PySem.W.codeIn K cdtup "_law_tupled" = true)
    (ktup : PySem.W.keepIn K (.ref ftup) = true)
    (afirst : PySem.W.nsIn K mainGlobals "_law_first" = some (some (.ref ffirst)))
    (lfirst : K.lookup ffirst = some ⟨ocfirst, odfirst, .func (PySem.W.fnOf "_law_first" "_law_first" (defArgs sFirst) (defBody sFirst) (defScope sFirst) .none kVfirst dcfirst pmfirst anfirst cdfirst ctfirst), slfirst⟩)
    (cfirst : PySem.W.codeIn K cdfirst "_law_first" = true)
    (kfirst : PySem.W.keepIn K (.ref ffirst) = true)
    (aby : PySem.W.nsIn K mainGlobals "_law_by_name" = some (some (.ref fby)))
    (lby : K.lookup fby = some ⟨ocby, odby, .func (PySem.W.fnOf "_law_by_name" "_law_by_name" (defArgs sBy) (defBody sBy) (defScope sBy) .none kVby dcby pmby anby cdby ctby), slby⟩)
    (cby : PySem.W.codeIn K cdby "_law_by_name" = true)
    (kby : PySem.W.keepIn K (.ref fby) = true)
    (akinds : PySem.W.nsIn K mainGlobals "_law_kinds" = some (some (.ref fkinds)))
    (lkinds : K.lookup fkinds = some ⟨ockinds, odkinds, .func (PySem.W.fnOf "_law_kinds" "_law_kinds" (defArgs sKinds) (defBody sKinds) (defScope sKinds) .none kVkinds dckinds pmkinds ankinds cdkinds ctkinds), slkinds⟩)
    (ckinds : PySem.W.codeIn K cdkinds "_law_kinds" = true)
    (kkinds : PySem.W.keepIn K (.ref fkinds) = true)
    (alaw : PySem.W.nsIn K mainGlobals "law" = some (some (.ref flaw)))
    (llaw : K.lookup flaw = some ⟨oclaw, odlaw, .func (PySem.W.fnOf "law" "law" (defArgs sLaw) (defBody sLaw) (defScope sLaw) .none kVlaw dclaw pmlaw anlaw cdlaw ctlaw), sllaw⟩)
    (claw : PySem.W.codeIn K cdlaw "law" = true)
    (klaw : PySem.W.keepIn K (.ref flaw) = true)
    (z_int : PySem.W.nsIn K mainGlobals "int" = some none)
    (z_list : PySem.W.nsIn K mainGlobals "list" = some none)
    (z_range : PySem.W.nsIn K mainGlobals "range" = some none)
    (z_tuple : PySem.W.nsIn K mainGlobals "tuple" = some none)
    (z_isinstance : PySem.W.nsIn K mainGlobals "isinstance" = some none)
    (z_dict : PySem.W.nsIn K mainGlobals "dict" = some none)
    (z_bool : PySem.W.nsIn K mainGlobals "bool" = some none)
    (z_len : PySem.W.nsIn K mainGlobals "len" = some none)
    (z_all : PySem.W.nsIn K mainGlobals "all" = some none)
    (z_zip : PySem.W.nsIn K mainGlobals "zip" = some none)
    (z_enumerate : PySem.W.nsIn K mainGlobals "enumerate" = some none)
    (z_ValueError : PySem.W.nsIn K mainGlobals "ValueError" = some none)
    (hn : PySem.W.specialIn K (.builtin "object.__class__") "__get__" = some (some (.builtin "getset_descriptor.__get__")))
    (ht : PySem.W.takesIn K (.builtin "object.__class__") = some true)
    (nd : ([C0, C1, C2, C3, C4, C5, C6, C7, C8, C9, C10, C11, C12, C13, C14, C15, C16, C17, C18, C19, C20, C21, C22, C23, C24] : List Addr).Nodup)
    (nT : CT ∉ ([C0, C1, C2, C3, C4, C5, C6, C7, C8, C9, C10, C11, C12, C13, C14, C15, C16, C17, C18, C19, C20, C21, C22, C23, C24] : List Addr)) :
    ∃ fd : FuncData, (∀ (s : Shared) (v : Value), BindsTo s fd ⟨[v], []⟩ [("_law_script", v)]) ∧ ∀ base : Heap, K.In base → base.Ns mainGlobals mg → FnOk l.prog w K mg base CX0 9 fa fd ["_law_script"] (spLaw K) := by
  have e := hfa.symm.trans (PySem.W.mg_of X G alaw)
  cases e
  have r0 := er_mk (PySem.W.mg_of X G a0) x0 sa0 ga0 gg0 cl0 kC0
  have F0 := fun_mk (st := inClass (top 2) 0) l0 c0 kf0
  have e0 : ErI K mg "BadColumns" "index" C0 f0 := ⟨r0, i0, t0, no0, hd_of x0⟩
  have r1 := er_mk (PySem.W.mg_of X G a1) x1 sa1 ga1 gg1 cl1 kC1
  have F1 := fun_mk (st := inClass (top 3) 0) l1 c1 kf1
  have e1 : ErI K mg "NoColumn" "name" C1 f1 := ⟨r1, i1, t1, no1, hd_of x1⟩
  have r2 := er_mk (PySem.W.mg_of X G a2) x2 sa2 ga2 gg2 cl2 kC2
  have F2 := fun_mk (st := inClass (top 4) 0) l2 c2 kf2
  have e2 : ErI K mg "BadNumber" "number" C2 f2 := ⟨r2, i2, t2, no2, hd_of x2⟩
  have r3 := er_mk (PySem.W.mg_of X G a3) x3 sa3 ga3 gg3 cl3 kC3
  have F3 := fun_mk (st := inClass (top 5) 0) l3 c3 kf3
  have e3 : ErI K mg "BadRow" "number" C3 f3 := ⟨r3, i3, t3, no3, hd_of x3⟩
  have r4 := er_mk (PySem.W.mg_of X G a4) x4 sa4 ga4 gg4 cl4 kC4
  have F4 := fun_mk (st := inClass (top 6) 0) l4 c4 kf4
  have e4 : ErI K mg "BadFollowing" "following" C4 f4 := ⟨r4, i4, t4, no4, hd_of x4⟩
  have r5 := er_mk (PySem.W.mg_of X G a5) x5 sa5 ga5 gg5 cl5 kC5
  have F5 := fun_mk (st := inClass (top 7) 0) l5 c5 kf5
  have e5 : ErI K mg "NoRow" "number" C5 f5 := ⟨r5, i5, t5, no5, hd_of x5⟩
  have r6 := er_mk (PySem.W.mg_of X G a6) x6 sa6 ga6 gg6 cl6 kC6
  have F6 := fun_mk (st := inClass (top 8) 0) l6 c6 kf6
  have e6 : ErI K mg "BadLook" "given" C6 f6 := ⟨r6, i6, t6, no6, hd_of x6⟩
  have r7 := er_mk (PySem.W.mg_of X G a7) x7 sa7 ga7 gg7 cl7 kC7
  have e7 : Er0 K mg "UnlikeColumns" C7 := ⟨r7, ex7⟩
  have r8 := er_mk (PySem.W.mg_of X G a8) x8 sa8 ga8 gg8 cl8 kC8
  have F8 := fun_mk (st := inClass (top 10) 0) l8 c8 kf8
  have e8 : ErI K mg "BadStatement" "part" C8 f8 := ⟨r8, i8, t8, no8, hd_of x8⟩
  have r9 := er_mk (PySem.W.mg_of X G a9) x9 sa9 ga9 gg9 cl9 kC9
  have F9 := fun_mk (st := inClass (top 11) 0) l9 c9 kf9
  have e9 : ErI K mg "BadTrigger" "part" C9 f9 := ⟨r9, i9, t9, no9, hd_of x9⟩
  have r10 := er_mk (PySem.W.mg_of X G a10) x10 sa10 ga10 gg10 cl10 kC10
  have F10 := fun_mk (st := inClass (top 12) 0) l10 c10 kf10
  have e10 : ErI K mg "BadScript" "index" C10 f10 := ⟨r10, i10, t10, no10, hd_of x10⟩
  have r11 := er_mk (PySem.W.mg_of X G a11) x11 sa11 ga11 gg11 cl11 kC11
  have F11 := fun_mk (st := inClass (top 13) 0) l11 c11 kf11
  have e11 : ErI K mg "NoStatement" "index" C11 f11 := ⟨r11, i11, t11, no11, hd_of x11⟩
  have r12 := er_mk (PySem.W.mg_of X G a12) x12 sa12 ga12 gg12 cl12 kC12
  have F12 := fun_mk (st := inClass (top 14) 0) l12 c12 kf12
  have e12 : ErI K mg "NotPlain" "index" C12 f12 := ⟨r12, i12, t12, no12, hd_of x12⟩
  have r13 := er_mk (PySem.W.mg_of X G a13) x13 sa13 ga13 gg13 cl13 kC13
  have F13 := fun_mk (st := inClass (top 15) 0) l13 c13 kf13
  have e13 : ErI K mg "BadDealings" "index" C13 f13 := ⟨r13, i13, t13, no13, hd_of x13⟩
  have r14 := er_mk (PySem.W.mg_of X G a14) x14 sa14 ga14 gg14 cl14 kC14
  have F14 := fun_mk (st := inClass (top 16) 0) l14 c14 kf14
  have e14 : ErI K mg "BadLevel" "level" C14 f14 := ⟨r14, i14, t14, no14, hd_of x14⟩
  have r15 := er_mk (PySem.W.mg_of X G a15) x15 sa15 ga15 gg15 cl15 kC15
  have F15 := fun_mk (st := inClass (top 17) 0) l15 c15 kf15
  have e15 : ErI K mg "BadOrder" "order" C15 f15 := ⟨r15, i15, t15, no15, hd_of x15⟩
  have r16 := er_mk (PySem.W.mg_of X G a16) x16 sa16 ga16 gg16 cl16 kC16
  have F16 := fun_mk (st := inClass (top 18) 0) l16 c16 kf16
  have e16 : ErI K mg "BadWord" "word" C16 f16 := ⟨r16, i16, t16, no16, hd_of x16⟩
  have r17 := er_mk (PySem.W.mg_of X G a17) x17 sa17 ga17 gg17 cl17 kC17
  have F17 := fun_mk (st := inClass (top 19) 0) l17 c17 kf17
  have e17 : ErI K mg "Barred" "dealing" C17 f17 := ⟨r17, i17, t17, no17, hd_of x17⟩
  have r18 := er_mk (PySem.W.mg_of X G a18) x18 sa18 ga18 gg18 cl18 kC18
  have e18 : Er0 K mg "Busy" C18 := ⟨r18, ex18⟩
  have r19 := er_mk (PySem.W.mg_of X G a19) x19 sa19 ga19 gg19 cl19 kC19
  have e19 : Er0 K mg "Closed" C19 := ⟨r19, ex19⟩
  have r20 := er_mk (PySem.W.mg_of X G a20) x20 sa20 ga20 gg20 cl20 kC20
  have F20 := fun_mk (st := inClass (top 22) 0) l20 c20 kf20
  have e20 : ErI K mg "Halted" "place" C20 f20 := ⟨r20, i20, t20, no20, hd_of x20⟩
  have r21 := er_mk (PySem.W.mg_of X G a21) x21 sa21 ga21 gg21 cl21 kC21
  have F21 := fun_mk (st := inClass (top 23) 0) l21 c21 kf21
  have e21 : ErI K mg "NoEntry" "place" C21 f21 := ⟨r21, i21, t21, no21, hd_of x21⟩
  have r22 := er_mk (PySem.W.mg_of X G a22) x22 sa22 ga22 gg22 cl22 kC22
  have e22 : Er0 K mg "NoWords" C22 := ⟨r22, ex22⟩
  have r23 := er_mk (PySem.W.mg_of X G a23) x23 sa23 ga23 gg23 cl23 kC23
  have e23 : Er0 K mg "Refused" C23 := ⟨r23, ex23⟩
  have r24 := er_mk (PySem.W.mg_of X G a24) x24 sa24 ga24 gg24 cl24 kC24
  have F24 := fun_mk (st := inClass (top 26) 0) l24 c24 kf24
  have e24 : ErI K mg "BadText" "line" C24 f24 := ⟨r24, i24, t24, no24, hd_of x24⟩
  have Fdraw := fun_mk (st := sDraw) ldraw cdraw kdraw
  have bdraw := Fdraw.binds (ps := ["_law_stream", "_law_many"]) fun _ _ _ _ _ _ us hl => match us, hl with | [_, _], _ => rfl
  have Fstart := fun_mk (st := sStart) lstart cstart kstart
  have bstart := Fstart.binds (ps := ["_law_script"]) fun _ _ _ _ _ _ us hl => match us, hl with | [_], _ => rfl
  have Fsame := fun_mk (st := sSame) lsame csame ksame
  have bsame := Fsame.binds (ps := ["_law_found", "_law_due"]) fun _ _ _ _ _ _ us hl => match us, hl with | [_, _], _ => rfl
  have Fthing := fun_mk (st := sThing) lthing cthing kthing
  have bthing := Fthing.binds (ps := ["_law_stream", "_law_deep"]) fun _ _ _ _ _ _ us hl => match us, hl with | [_, _], _ => rfl
  have Ftup := fun_mk (st := sTup) ltup ctup ktup
  have btup := Ftup.binds (ps := ["_law_thing_here"]) fun _ _ _ _ _ _ us hl => match us, hl with | [_], _ => rfl
  have Ffirst := fun_mk (st := sFirst) lfirst cfirst kfirst
  have bfirst := Ffirst.binds (ps := ["_law_one"]) fun _ _ _ _ _ _ us hl => match us, hl with | [_], _ => rfl
  have Fby := fun_mk (st := sBy) lby cby kby
  have bby := Fby.binds (ps := ["_law_one"]) fun _ _ _ _ _ _ us hl => match us, hl with | [_], _ => rfl
  have Fkinds := fun_mk (st := sKinds) lkinds ckinds kkinds
  have bkinds := Fkinds.binds (ps := ["_law_e"]) fun _ _ _ _ _ _ us hl => match us, hl with | [_], _ => rfl
  have Flaw := fun_mk (st := sLaw) llaw claw klaw
  have y_int := PySem.W.mg_none_of X G z_int
  have y_list := PySem.W.mg_none_of X G z_list
  have y_range := PySem.W.mg_none_of X G z_range
  have y_tuple := PySem.W.mg_none_of X G z_tuple
  have y_isinstance := PySem.W.mg_none_of X G z_isinstance
  have y_dict := PySem.W.mg_none_of X G z_dict
  have y_bool := PySem.W.mg_none_of X G z_bool
  have y_len := PySem.W.mg_none_of X G z_len
  have y_all := PySem.W.mg_none_of X G z_all
  have y_zip := PySem.W.mg_none_of X G z_zip
  have y_enumerate := PySem.W.mg_none_of X G z_enumerate
  have y_ValueError := PySem.W.mg_none_of X G z_ValueError
  have spc : Spc K := ⟨hn, ht⟩
  have TE : TxE K mg (fun n => match n with | 0 => C0 | 1 => C1 | 2 => C2 | 3 => C3 | 4 => C4 | 5 => C5 | 6 => C6 | 7 => C7 | 8 => C8 | 9 => C9 | 10 => C10 | 11 => C11 | 12 => C12 | 13 => C13 | 14 => C14 | 15 => C15 | 16 => C16 | 17 => C17 | 18 => C18 | 19 => C19 | 20 => C20 | 21 => C21 | 22 => C22 | 23 => C23 | 24 => C24 | _ => C0) (fun n => match n with | 0 => f0 | 1 => f1 | 2 => f2 | 3 => f3 | 4 => f4 | 5 => f5 | 6 => f6 | 8 => f8 | 9 => f9 | 10 => f10 | 11 => f11 | 12 => f12 | 13 => f13 | 14 => f14 | 15 => f15 | 16 => f16 | 17 => f17 | 20 => f20 | 21 => f21 | 24 => f24 | _ => f0) (fun n => match n with | 0 => (PySem.W.fnOf "__init__" "BadColumns.__init__" (defArgs (inClass (top 2) 0)) (defBody (inClass (top 2) 0)) (defScope (inClass (top 2) 0)) .none kV0 dc0 pm0 an0 cd0 ct0) | 1 => (PySem.W.fnOf "__init__" "NoColumn.__init__" (defArgs (inClass (top 3) 0)) (defBody (inClass (top 3) 0)) (defScope (inClass (top 3) 0)) .none kV1 dc1 pm1 an1 cd1 ct1) | 2 => (PySem.W.fnOf "__init__" "BadNumber.__init__" (defArgs (inClass (top 4) 0)) (defBody (inClass (top 4) 0)) (defScope (inClass (top 4) 0)) .none kV2 dc2 pm2 an2 cd2 ct2) | 3 => (PySem.W.fnOf "__init__" "BadRow.__init__" (defArgs (inClass (top 5) 0)) (defBody (inClass (top 5) 0)) (defScope (inClass (top 5) 0)) .none kV3 dc3 pm3 an3 cd3 ct3) | 4 => (PySem.W.fnOf "__init__" "BadFollowing.__init__" (defArgs (inClass (top 6) 0)) (defBody (inClass (top 6) 0)) (defScope (inClass (top 6) 0)) .none kV4 dc4 pm4 an4 cd4 ct4) | 5 => (PySem.W.fnOf "__init__" "NoRow.__init__" (defArgs (inClass (top 7) 0)) (defBody (inClass (top 7) 0)) (defScope (inClass (top 7) 0)) .none kV5 dc5 pm5 an5 cd5 ct5) | 6 => (PySem.W.fnOf "__init__" "BadLook.__init__" (defArgs (inClass (top 8) 0)) (defBody (inClass (top 8) 0)) (defScope (inClass (top 8) 0)) .none kV6 dc6 pm6 an6 cd6 ct6) | 8 => (PySem.W.fnOf "__init__" "BadStatement.__init__" (defArgs (inClass (top 10) 0)) (defBody (inClass (top 10) 0)) (defScope (inClass (top 10) 0)) .none kV8 dc8 pm8 an8 cd8 ct8) | 9 => (PySem.W.fnOf "__init__" "BadTrigger.__init__" (defArgs (inClass (top 11) 0)) (defBody (inClass (top 11) 0)) (defScope (inClass (top 11) 0)) .none kV9 dc9 pm9 an9 cd9 ct9) | 10 => (PySem.W.fnOf "__init__" "BadScript.__init__" (defArgs (inClass (top 12) 0)) (defBody (inClass (top 12) 0)) (defScope (inClass (top 12) 0)) .none kV10 dc10 pm10 an10 cd10 ct10) | 11 => (PySem.W.fnOf "__init__" "NoStatement.__init__" (defArgs (inClass (top 13) 0)) (defBody (inClass (top 13) 0)) (defScope (inClass (top 13) 0)) .none kV11 dc11 pm11 an11 cd11 ct11) | 12 => (PySem.W.fnOf "__init__" "NotPlain.__init__" (defArgs (inClass (top 14) 0)) (defBody (inClass (top 14) 0)) (defScope (inClass (top 14) 0)) .none kV12 dc12 pm12 an12 cd12 ct12) | 13 => (PySem.W.fnOf "__init__" "BadDealings.__init__" (defArgs (inClass (top 15) 0)) (defBody (inClass (top 15) 0)) (defScope (inClass (top 15) 0)) .none kV13 dc13 pm13 an13 cd13 ct13) | 14 => (PySem.W.fnOf "__init__" "BadLevel.__init__" (defArgs (inClass (top 16) 0)) (defBody (inClass (top 16) 0)) (defScope (inClass (top 16) 0)) .none kV14 dc14 pm14 an14 cd14 ct14) | 15 => (PySem.W.fnOf "__init__" "BadOrder.__init__" (defArgs (inClass (top 17) 0)) (defBody (inClass (top 17) 0)) (defScope (inClass (top 17) 0)) .none kV15 dc15 pm15 an15 cd15 ct15) | 16 => (PySem.W.fnOf "__init__" "BadWord.__init__" (defArgs (inClass (top 18) 0)) (defBody (inClass (top 18) 0)) (defScope (inClass (top 18) 0)) .none kV16 dc16 pm16 an16 cd16 ct16) | 17 => (PySem.W.fnOf "__init__" "Barred.__init__" (defArgs (inClass (top 19) 0)) (defBody (inClass (top 19) 0)) (defScope (inClass (top 19) 0)) .none kV17 dc17 pm17 an17 cd17 ct17) | 20 => (PySem.W.fnOf "__init__" "Halted.__init__" (defArgs (inClass (top 22) 0)) (defBody (inClass (top 22) 0)) (defScope (inClass (top 22) 0)) .none kV20 dc20 pm20 an20 cd20 ct20) | 21 => (PySem.W.fnOf "__init__" "NoEntry.__init__" (defArgs (inClass (top 23) 0)) (defBody (inClass (top 23) 0)) (defScope (inClass (top 23) 0)) .none kV21 dc21 pm21 an21 cd21 ct21) | 24 => (PySem.W.fnOf "__init__" "BadText.__init__" (defArgs (inClass (top 26) 0)) (defBody (inClass (top 26) 0)) (defScope (inClass (top 26) 0)) .none kV24 dc24 pm24 an24 cd24 ct24) | _ => (PySem.W.fnOf "__init__" "BadColumns.__init__" (defArgs (inClass (top 2) 0)) (defBody (inClass (top 2) 0)) (defScope (inClass (top 2) 0)) .none kV0 dc0 pm0 an0 cd0 ct0)) := ⟨spc, y_isinstance, e0, F0, e1, F1, e2, F2, e3, F3, e4, F4, e5, F5, e6, F6, e7, e8, F8, e9, F9, e10, F10, e11, F11, e12, F12, e13, F13, e14, F14, e15, F15, e16, F16, e17, F17, e18, e19, e20, F20, e21, F21, e22, e23, e24, F24⟩
  have hEr : ∀ C ∈ ([C0, C1, C2, C3, C4, C5, C6, C7, C8, C9, C10, C11, C12, C13, C14, C15, C16, C17, C18, C19, C20, C21, C22, C23, C24] : List Addr), IsEr K CT C := by
    intro C hC
    simp only [List.mem_cons, List.not_mem_nil, or_false] at hC
    rcases hC with rfl | rfl | rfl | rfl | rfl | rfl | rfl | rfl | rfl | rfl | rfl | rfl | rfl | rfl | rfl | rfl | rfl | rfl | rfl | rfl | rfl | rfl | rfl | rfl | rfl
    · exact ⟨_, _, _, _, _, _, _, _, _, _, _, _, _, _, x0⟩
    · exact ⟨_, _, _, _, _, _, _, _, _, _, _, _, _, _, x1⟩
    · exact ⟨_, _, _, _, _, _, _, _, _, _, _, _, _, _, x2⟩
    · exact ⟨_, _, _, _, _, _, _, _, _, _, _, _, _, _, x3⟩
    · exact ⟨_, _, _, _, _, _, _, _, _, _, _, _, _, _, x4⟩
    · exact ⟨_, _, _, _, _, _, _, _, _, _, _, _, _, _, x5⟩
    · exact ⟨_, _, _, _, _, _, _, _, _, _, _, _, _, _, x6⟩
    · exact ⟨_, _, _, _, _, _, _, _, _, _, _, _, _, _, x7⟩
    · exact ⟨_, _, _, _, _, _, _, _, _, _, _, _, _, _, x8⟩
    · exact ⟨_, _, _, _, _, _, _, _, _, _, _, _, _, _, x9⟩
    · exact ⟨_, _, _, _, _, _, _, _, _, _, _, _, _, _, x10⟩
    · exact ⟨_, _, _, _, _, _, _, _, _, _, _, _, _, _, x11⟩
    · exact ⟨_, _, _, _, _, _, _, _, _, _, _, _, _, _, x12⟩
    · exact ⟨_, _, _, _, _, _, _, _, _, _, _, _, _, _, x13⟩
    · exact ⟨_, _, _, _, _, _, _, _, _, _, _, _, _, _, x14⟩
    · exact ⟨_, _, _, _, _, _, _, _, _, _, _, _, _, _, x15⟩
    · exact ⟨_, _, _, _, _, _, _, _, _, _, _, _, _, _, x16⟩
    · exact ⟨_, _, _, _, _, _, _, _, _, _, _, _, _, _, x17⟩
    · exact ⟨_, _, _, _, _, _, _, _, _, _, _, _, _, _, x18⟩
    · exact ⟨_, _, _, _, _, _, _, _, _, _, _, _, _, _, x19⟩
    · exact ⟨_, _, _, _, _, _, _, _, _, _, _, _, _, _, x20⟩
    · exact ⟨_, _, _, _, _, _, _, _, _, _, _, _, _, _, x21⟩
    · exact ⟨_, _, _, _, _, _, _, _, _, _, _, _, _, _, x22⟩
    · exact ⟨_, _, _, _, _, _, _, _, _, _, _, _, _, _, x23⟩
    · exact ⟨_, _, _, _, _, _, _, _, _, _, _, _, _, _, x24⟩
  have hRr : ∀ C ∈ ([C0, C1, C2, C3, C4, C5, C6, C7, C8, C9, C10, C11, C12, C13, C14, C15, C16, C17, C18, C19, C20, C21, C22, C23, C24] : List Addr), ErC K C ∧ PySem.W.mroIn K C (.type "object") = some true ∧ PySem.W.isClsIn K C = true := by
    intro C hC
    simp only [List.mem_cons, List.not_mem_nil, or_false] at hC
    rcases hC with rfl | rfl | rfl | rfl | rfl | rfl | rfl | rfl | rfl | rfl | rfl | rfl | rfl | rfl | rfl | rfl | rfl | rfl | rfl | rfl | rfl | rfl | rfl | rfl | rfl
    · exact ⟨r0.er, r0.mo, r0.ic⟩
    · exact ⟨r1.er, r1.mo, r1.ic⟩
    · exact ⟨r2.er, r2.mo, r2.ic⟩
    · exact ⟨r3.er, r3.mo, r3.ic⟩
    · exact ⟨r4.er, r4.mo, r4.ic⟩
    · exact ⟨r5.er, r5.mo, r5.ic⟩
    · exact ⟨r6.er, r6.mo, r6.ic⟩
    · exact ⟨r7.er, r7.mo, r7.ic⟩
    · exact ⟨r8.er, r8.mo, r8.ic⟩
    · exact ⟨r9.er, r9.mo, r9.ic⟩
    · exact ⟨r10.er, r10.mo, r10.ic⟩
    · exact ⟨r11.er, r11.mo, r11.ic⟩
    · exact ⟨r12.er, r12.mo, r12.ic⟩
    · exact ⟨r13.er, r13.mo, r13.ic⟩
    · exact ⟨r14.er, r14.mo, r14.ic⟩
    · exact ⟨r15.er, r15.mo, r15.ic⟩
    · exact ⟨r16.er, r16.mo, r16.ic⟩
    · exact ⟨r17.er, r17.mo, r17.ic⟩
    · exact ⟨r18.er, r18.mo, r18.ic⟩
    · exact ⟨r19.er, r19.mo, r19.ic⟩
    · exact ⟨r20.er, r20.mo, r20.ic⟩
    · exact ⟨r21.er, r21.mo, r21.ic⟩
    · exact ⟨r22.er, r22.mo, r22.ic⟩
    · exact ⟨r23.er, r23.mo, r23.ic⟩
    · exact ⟨r24.er, r24.mo, r24.ic⟩
  have TL : TxL K mg (fun n => match n with | 0 => C0 | 1 => C1 | 2 => C2 | 3 => C3 | 4 => C4 | 5 => C5 | 6 => C6 | 7 => C7 | 8 => C8 | 9 => C9 | 10 => C10 | 11 => C11 | 12 => C12 | 13 => C13 | 14 => C14 | 15 => C15 | 16 => C16 | 17 => C17 | 18 => C18 | 19 => C19 | 20 => C20 | 21 => C21 | 22 => C22 | 23 => C23 | 24 => C24 | _ => C0) CT fa := ⟨spc, y_isinstance, y_range, y_enumerate, y_ValueError, PySem.W.mg_of X G aT, nd, fun C hC => by
    obtain ⟨_, _, _, _, _, _, _, _, _, _, _, _, _, _, x⟩ := hEr C hC
    obtain ⟨q1, q2, q3⟩ := hRr C hC
    exact ⟨q1, q2, q3, kit_told x xT, kit_val x, all_kits hEr nT C hC⟩⟩
  refine ⟨PySem.W.fnOf "law" "law" (defArgs sLaw) (defBody sLaw) (defScope sLaw) .none kVlaw dclaw pmlaw anlaw cdlaw ctlaw, fun s v => .of_eq rfl, fun base _ _ => ?_⟩
  have Gd := ok_draw (P := l.prog) (w := w) (base := base) Fdraw ⟨y_int, y_list⟩
  have hs := ok_start (P := l.prog) (w := w) (base := base) Fstart ⟨y_int, y_list⟩
  have ht2 := ok_thing (P := l.prog) (w := w) (base := base) Fthing ⟨y_range, y_tuple, PySem.W.mg_of X G adraw, kdraw, PySem.W.mg_of X G athing, kthing⟩ Gd bdraw bthing 3
  have h1 := ok_first (P := l.prog) (w := w) (base := base) Ffirst TE
  have h2 := ok_by (P := l.prog) (w := w) (base := base) Fby TE
  have h3 := ok_kinds (P := l.prog) (w := w) (base := base) Fkinds TE
  have h4 := ok_same (P := l.prog) (w := w) (base := base) Fsame ⟨y_isinstance, y_list, y_tuple, y_int, y_bool, y_len, y_all, y_zip, PySem.W.mg_of X G asame, ksame⟩ bsame 7
  have h5 := ok_tup (P := l.prog) (w := w) (base := base) Ftup ⟨y_isinstance, y_list, y_dict, y_tuple, PySem.W.mg_of X G atup, ktup⟩ btup 7
  exact ok_law Flaw TL ⟨⟨PySem.W.mg_of X G astart, kstart⟩, ⟨PySem.W.mg_of X G athing, kthing⟩, ⟨PySem.W.mg_of X G afirst, kfirst⟩, ⟨PySem.W.mg_of X G aby, kby⟩, ⟨PySem.W.mg_of X G akinds, kkinds⟩, ⟨PySem.W.mg_of X G asame, ksame⟩, ⟨PySem.W.mg_of X G atup, ktup⟩⟩
    hs bstart ht2 bthing h1 bfirst h2 bby h3 bkinds h4 bsame h5 btup
theorem walk {l : PySem.W.OpenLaw} {q : Program} {loose : List Str} {XP : (Str → Option Value) → Heap → Prop} {YP : World → Heap → Prop} {d : DefRec} {K : Params → PySem.W.Frag} (hn : l.most = some 63) (hdf : d.params.defaults = [])
    (hY : ∀ (w : World) (h : Heap), YP w h → (K w.params).In h)
    (F : ∀ (w : World) (mg : Str → Option Value) (fa : Addr) (h : Heap), (K w.params).In h → h.Ns mainGlobals mg → mg d.name = some (.ref fa) →
      ∃ fd : FuncData, (∀ (s : Shared) (u : Value), BindsTo s fd ⟨[u], []⟩ [("_law_script", u)]) ∧ ∀ base : Heap, (K w.params).In base → base.Ns mainGlobals mg → FnOk l.prog w (K w.params) mg base CX0 9 fa fd ["_law_script"] (spLaw (K w.params))) :
    PySem.W.WalkO q loose XP YP l.row.toRowW d [] (fun f vs => PySem.call f vs) :=
  L2.walk_of (n := 63) (k := 9) (x := "_law_script") (CX := fun _ => CX0) (sp := fun w => spLaw (K w.params)) hn (by decide) hdf ⟨rfl, by decide, by decide⟩ hY F (fun _ _ a ns hl _ hS => ⟨a, ns, rfl, hS, fun _ => rfl⟩) fun _ _ _ _ _ z => z
end L2.E5

open PySem PySem.W PyProof.Rows
set_option maxRecDepth 100000 in
set_option maxHeartbeats 0 in
theorem PySem.Challenge.cw_toldthere_k35_errors_made_holds : PySem.Challenge.rw_toldthere_k35_errors_made.Holds := by
  w_on; o_law; k_head; (case hw => w_witness2)
  k_fill
  refine L2.E5.walk (l := PySem.Challenge.rw_toldthere_k35_errors_made) rfl rfl (fun w h Y => PySem.W.kIn_of Y) ?F
  case F =>
    intro w mg fa h KX G hmg
    refine' L2.E5.all_mk KX G hmg ?aT ?xT ?a0 ?x0 ?sa0 ?ga0 ?gg0 ?cl0 ?kC0 ?i0 ?t0 ?no0 ?l0 ?c0 ?kf0 ?a1 ?x1 ?sa1 ?ga1 ?gg1 ?cl1 ?kC1 ?i1 ?t1 ?no1 ?l1 ?c1 ?kf1 ?a2 ?x2 ?sa2 ?ga2 ?gg2 ?cl2 ?kC2 ?i2 ?t2 ?no2 ?l2 ?c2 ?kf2 ?a3 ?x3 ?sa3 ?ga3 ?gg3 ?cl3 ?kC3 ?i3 ?t3 ?no3 ?l3 ?c3 ?kf3 ?a4 ?x4 ?sa4 ?ga4 ?gg4 ?cl4 ?kC4 ?i4 ?t4 ?no4 ?l4 ?c4 ?kf4 ?a5 ?x5 ?sa5 ?ga5 ?gg5 ?cl5 ?kC5 ?i5 ?t5 ?no5 ?l5 ?c5 ?kf5 ?a6 ?x6 ?sa6 ?ga6 ?gg6 ?cl6 ?kC6 ?i6 ?t6 ?no6 ?l6 ?c6 ?kf6 ?a7 ?x7 ?sa7 ?ga7 ?gg7 ?cl7 ?kC7 ?ex7 ?a8 ?x8 ?sa8 ?ga8 ?gg8 ?cl8 ?kC8 ?i8 ?t8 ?no8 ?l8 ?c8 ?kf8 ?a9 ?x9 ?sa9 ?ga9 ?gg9 ?cl9 ?kC9 ?i9 ?t9 ?no9 ?l9 ?c9 ?kf9 ?a10 ?x10 ?sa10 ?ga10 ?gg10 ?cl10 ?kC10 ?i10 ?t10 ?no10 ?l10 ?c10 ?kf10 ?a11 ?x11 ?sa11 ?ga11 ?gg11 ?cl11 ?kC11 ?i11 ?t11 ?no11 ?l11 ?c11 ?kf11 ?a12 ?x12 ?sa12 ?ga12 ?gg12 ?cl12 ?kC12 ?i12 ?t12 ?no12 ?l12 ?c12 ?kf12 ?a13 ?x13 ?sa13 ?ga13 ?gg13 ?cl13 ?kC13 ?i13 ?t13 ?no13 ?l13 ?c13 ?kf13 ?a14 ?x14 ?sa14 ?ga14 ?gg14 ?cl14 ?kC14 ?i14 ?t14 ?no14 ?l14 ?c14 ?kf14 ?a15 ?x15 ?sa15 ?ga15 ?gg15 ?cl15 ?kC15 ?i15 ?t15 ?no15 ?l15 ?c15 ?kf15 ?a16 ?x16 ?sa16 ?ga16 ?gg16 ?cl16 ?kC16 ?i16 ?t16 ?no16 ?l16 ?c16 ?kf16 ?a17 ?x17 ?sa17 ?ga17 ?gg17 ?cl17 ?kC17 ?i17 ?t17 ?no17 ?l17 ?c17 ?kf17 ?a18 ?x18 ?sa18 ?ga18 ?gg18 ?cl18 ?kC18 ?ex18 ?a19 ?x19 ?sa19 ?ga19 ?gg19 ?cl19 ?kC19 ?ex19 ?a20 ?x20 ?sa20 ?ga20 ?gg20 ?cl20 ?kC20 ?i20 ?t20 ?no20 ?l20 ?c20 ?kf20 ?a21 ?x21 ?sa21 ?ga21 ?gg21 ?cl21 ?kC21 ?i21 ?t21 ?no21 ?l21 ?c21 ?kf21 ?a22 ?x22 ?sa22 ?ga22 ?gg22 ?cl22 ?kC22 ?ex22 ?a23 ?x23 ?sa23 ?ga23 ?gg23 ?cl23 ?kC23 ?ex23 ?a24 ?x24 ?sa24 ?ga24 ?gg24 ?cl24 ?kC24 ?i24 ?t24 ?no24 ?l24 ?c24 ?kf24 ?adraw ?ldraw ?cdraw ?kdraw ?astart ?lstart ?cstart ?kstart ?asame ?lsame ?csame ?ksame ?athing ?lthing ?cthing ?kthing ?atup ?ltup ?ctup ?ktup ?afirst ?lfirst ?cfirst ?kfirst ?aby ?lby ?cby ?kby ?akinds ?lkinds ?ckinds ?kkinds ?alaw ?llaw ?claw ?klaw ?z_int ?z_list ?z_range ?z_tuple ?z_isinstance ?z_dict ?z_bool ?z_len ?z_all ?z_zip ?z_enumerate ?z_ValueError ?hn ?ht ?nd ?nT
    (case aT => k_is)
    (case xT => k_is)
    (case a0 => k_is)
    (case x0 => k_is)
    (case sa0 => k_is)
    (case ga0 => k_is)
    (case gg0 => k_is)
    (case cl0 => k_is)
    (case kC0 => k_is)
    (case i0 => k_is)
    (case t0 => k_is)
    (case no0 => k_is)
    (case l0 => k_is)
    (case c0 => k_is)
    (case kf0 => k_is)
    (case a1 => k_is)
    (case x1 => k_is)
    (case sa1 => k_is)
    (case ga1 => k_is)
    (case gg1 => k_is)
    (case cl1 => k_is)
    (case kC1 => k_is)
    (case i1 => k_is)
    (case t1 => k_is)
    (case no1 => k_is)
    (case l1 => k_is)
    (case c1 => k_is)
    (case kf1 => k_is)
    (case a2 => k_is)
    (case x2 => k_is)
    (case sa2 => k_is)
    (case ga2 => k_is)
    (case gg2 => k_is)
    (case cl2 => k_is)
    (case kC2 => k_is)
    (case i2 => k_is)
    (case t2 => k_is)
    (case no2 => k_is)
    (case l2 => k_is)
    (case c2 => k_is)
    (case kf2 => k_is)
    (case a3 => k_is)
    (case x3 => k_is)
    (case sa3 => k_is)
    (case ga3 => k_is)
    (case gg3 => k_is)
    (case cl3 => k_is)
    (case kC3 => k_is)
    (case i3 => k_is)
    (case t3 => k_is)
    (case no3 => k_is)
    (case l3 => k_is)
    (case c3 => k_is)
    (case kf3 => k_is)
    (case a4 => k_is)
    (case x4 => k_is)
    (case sa4 => k_is)
    (case ga4 => k_is)
    (case gg4 => k_is)
    (case cl4 => k_is)
    (case kC4 => k_is)
    (case i4 => k_is)
    (case t4 => k_is)
    (case no4 => k_is)
    (case l4 => k_is)
    (case c4 => k_is)
    (case kf4 => k_is)
    (case a5 => k_is)
    (case x5 => k_is)
    (case sa5 => k_is)
    (case ga5 => k_is)
    (case gg5 => k_is)
    (case cl5 => k_is)
    (case kC5 => k_is)
    (case i5 => k_is)
    (case t5 => k_is)
    (case no5 => k_is)
    (case l5 => k_is)
    (case c5 => k_is)
    (case kf5 => k_is)
    (case a6 => k_is)
    (case x6 => k_is)
    (case sa6 => k_is)
    (case ga6 => k_is)
    (case gg6 => k_is)
    (case cl6 => k_is)
    (case kC6 => k_is)
    (case i6 => k_is)
    (case t6 => k_is)
    (case no6 => k_is)
    (case l6 => k_is)
    (case c6 => k_is)
    (case kf6 => k_is)
    (case a7 => k_is)
    (case x7 => k_is)
    (case sa7 => k_is)
    (case ga7 => k_is)
    (case gg7 => k_is)
    (case cl7 => k_is)
    (case kC7 => k_is)
    (case ex7 => k_exc)
    (case a8 => k_is)
    (case x8 => k_is)
    (case sa8 => k_is)
    (case ga8 => k_is)
    (case gg8 => k_is)
    (case cl8 => k_is)
    (case kC8 => k_is)
    (case i8 => k_is)
    (case t8 => k_is)
    (case no8 => k_is)
    (case l8 => k_is)
    (case c8 => k_is)
    (case kf8 => k_is)
    (case a9 => k_is)
    (case x9 => k_is)
    (case sa9 => k_is)
    (case ga9 => k_is)
    (case gg9 => k_is)
    (case cl9 => k_is)
    (case kC9 => k_is)
    (case i9 => k_is)
    (case t9 => k_is)
    (case no9 => k_is)
    (case l9 => k_is)
    (case c9 => k_is)
    (case kf9 => k_is)
    (case a10 => k_is)
    (case x10 => k_is)
    (case sa10 => k_is)
    (case ga10 => k_is)
    (case gg10 => k_is)
    (case cl10 => k_is)
    (case kC10 => k_is)
    (case i10 => k_is)
    (case t10 => k_is)
    (case no10 => k_is)
    (case l10 => k_is)
    (case c10 => k_is)
    (case kf10 => k_is)
    (case a11 => k_is)
    (case x11 => k_is)
    (case sa11 => k_is)
    (case ga11 => k_is)
    (case gg11 => k_is)
    (case cl11 => k_is)
    (case kC11 => k_is)
    (case i11 => k_is)
    (case t11 => k_is)
    (case no11 => k_is)
    (case l11 => k_is)
    (case c11 => k_is)
    (case kf11 => k_is)
    (case a12 => k_is)
    (case x12 => k_is)
    (case sa12 => k_is)
    (case ga12 => k_is)
    (case gg12 => k_is)
    (case cl12 => k_is)
    (case kC12 => k_is)
    (case i12 => k_is)
    (case t12 => k_is)
    (case no12 => k_is)
    (case l12 => k_is)
    (case c12 => k_is)
    (case kf12 => k_is)
    (case a13 => k_is)
    (case x13 => k_is)
    (case sa13 => k_is)
    (case ga13 => k_is)
    (case gg13 => k_is)
    (case cl13 => k_is)
    (case kC13 => k_is)
    (case i13 => k_is)
    (case t13 => k_is)
    (case no13 => k_is)
    (case l13 => k_is)
    (case c13 => k_is)
    (case kf13 => k_is)
    (case a14 => k_is)
    (case x14 => k_is)
    (case sa14 => k_is)
    (case ga14 => k_is)
    (case gg14 => k_is)
    (case cl14 => k_is)
    (case kC14 => k_is)
    (case i14 => k_is)
    (case t14 => k_is)
    (case no14 => k_is)
    (case l14 => k_is)
    (case c14 => k_is)
    (case kf14 => k_is)
    (case a15 => k_is)
    (case x15 => k_is)
    (case sa15 => k_is)
    (case ga15 => k_is)
    (case gg15 => k_is)
    (case cl15 => k_is)
    (case kC15 => k_is)
    (case i15 => k_is)
    (case t15 => k_is)
    (case no15 => k_is)
    (case l15 => k_is)
    (case c15 => k_is)
    (case kf15 => k_is)
    (case a16 => k_is)
    (case x16 => k_is)
    (case sa16 => k_is)
    (case ga16 => k_is)
    (case gg16 => k_is)
    (case cl16 => k_is)
    (case kC16 => k_is)
    (case i16 => k_is)
    (case t16 => k_is)
    (case no16 => k_is)
    (case l16 => k_is)
    (case c16 => k_is)
    (case kf16 => k_is)
    (case a17 => k_is)
    (case x17 => k_is)
    (case sa17 => k_is)
    (case ga17 => k_is)
    (case gg17 => k_is)
    (case cl17 => k_is)
    (case kC17 => k_is)
    (case i17 => k_is)
    (case t17 => k_is)
    (case no17 => k_is)
    (case l17 => k_is)
    (case c17 => k_is)
    (case kf17 => k_is)
    (case a18 => k_is)
    (case x18 => k_is)
    (case sa18 => k_is)
    (case ga18 => k_is)
    (case gg18 => k_is)
    (case cl18 => k_is)
    (case kC18 => k_is)
    (case ex18 => k_exc)
    (case a19 => k_is)
    (case x19 => k_is)
    (case sa19 => k_is)
    (case ga19 => k_is)
    (case gg19 => k_is)
    (case cl19 => k_is)
    (case kC19 => k_is)
    (case ex19 => k_exc)
    (case a20 => k_is)
    (case x20 => k_is)
    (case sa20 => k_is)
    (case ga20 => k_is)
    (case gg20 => k_is)
    (case cl20 => k_is)
    (case kC20 => k_is)
    (case i20 => k_is)
    (case t20 => k_is)
    (case no20 => k_is)
    (case l20 => k_is)
    (case c20 => k_is)
    (case kf20 => k_is)
    (case a21 => k_is)
    (case x21 => k_is)
    (case sa21 => k_is)
    (case ga21 => k_is)
    (case gg21 => k_is)
    (case cl21 => k_is)
    (case kC21 => k_is)
    (case i21 => k_is)
    (case t21 => k_is)
    (case no21 => k_is)
    (case l21 => k_is)
    (case c21 => k_is)
    (case kf21 => k_is)
    (case a22 => k_is)
    (case x22 => k_is)
    (case sa22 => k_is)
    (case ga22 => k_is)
    (case gg22 => k_is)
    (case cl22 => k_is)
    (case kC22 => k_is)
    (case ex22 => k_exc)
    (case a23 => k_is)
    (case x23 => k_is)
    (case sa23 => k_is)
    (case ga23 => k_is)
    (case gg23 => k_is)
    (case cl23 => k_is)
    (case kC23 => k_is)
    (case ex23 => k_exc)
    (case a24 => k_is)
    (case x24 => k_is)
    (case sa24 => k_is)
    (case ga24 => k_is)
    (case gg24 => k_is)
    (case cl24 => k_is)
    (case kC24 => k_is)
    (case i24 => k_is)
    (case t24 => k_is)
    (case no24 => k_is)
    (case l24 => k_is)
    (case c24 => k_is)
    (case kf24 => k_is)
    (case adraw => k_is)
    (case ldraw => k_is)
    (case cdraw => k_is)
    (case kdraw => k_is)
    (case astart => k_is)
    (case lstart => k_is)
    (case cstart => k_is)
    (case kstart => k_is)
    (case asame => k_is)
    (case lsame => k_is)
    (case csame => k_is)
    (case ksame => k_is)
    (case athing => k_is)
    (case lthing => k_is)
    (case cthing => k_is)
    (case kthing => k_is)
    (case atup => k_is)
    (case ltup => k_is)
    (case ctup => k_is)
    (case ktup => k_is)
    (case afirst => k_is)
    (case lfirst => k_is)
    (case cfirst => k_is)
    (case kfirst => k_is)
    (case aby => k_is)
    (case lby => k_is)
    (case cby => k_is)
    (case kby => k_is)
    (case akinds => k_is)
    (case lkinds => k_is)
    (case ckinds => k_is)
    (case kkinds => k_is)
    (case alaw => k_is)
    (case llaw => k_is)
    (case claw => k_is)
    (case klaw => k_is)
    (case z_int => k_is)
    (case z_list => k_is)
    (case z_range => k_is)
    (case z_tuple => k_is)
    (case z_isinstance => k_is)
    (case z_dict => k_is)
    (case z_bool => k_is)
    (case z_len => k_is)
    (case z_all => k_is)
    (case z_zip => k_is)
    (case z_enumerate => k_is)
    (case z_ValueError => k_is)
    (case hn => k_is)
    (case ht => k_is)
    (case nd => decide)
    (case nT => decide)

