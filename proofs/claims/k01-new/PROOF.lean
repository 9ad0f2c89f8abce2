import PyProof.Rows.All
import Wide.All
import OpenK.AllK
import Wide.FinOn
import HandS.ForMost
import HandS.Exc
import HandS.ExcInit
import HandS.IsInst
import HandS.Defaults
import HandS.DictEq
import HandS.OwnEq
import HandS.Zip
import KE.KExcIs
import HandS.Walk
import HandS.Codes
import HandS.Strs
import KE.KEqSeq
import KE.GoesEnum
import KE.GoesMore
import HandS.Call
import HandS.ExcOwn
import HandS.Style
import HandS.More
import HandS.Conv
import HandS.Flow
import HandS.TupAny
import HandS.Steps
import HandS.ForExc
import HandS.Words
import HandS.ListItems
import HandS.SlotsOwn
import PySem.Challenge.RW_toldthere_k01_columns_told
import HandS.ExcField
set_option Elab.async false
set_option linter.all false
set_option maxRecDepth 100000
set_option maxHeartbeats 4000000
namespace Vx
open PySem PySem.W PySem.Calls PyProof.Rows PySem.HandSPX
section
variable {M : Model} {prog : Program} {w : World} {A : Around} {E : Value → Shared → Prop} {R : Result → Shared → Prop} {hp : Heap} {gs : Array GenState} {dr : Drawn} {tk : Nat} {os : OsState}
variable {nm qn : Str} {C N : Addr} {bs bm bmB : List Value} {hdct : Bool} {sn : List Str} {sub : List Value} {ab : Bool} {col : Option Bool} {dd : Option Addr} {k0 k1 k2 k3 k5 : Option Value} {B newId initId : String}

/-- BaseException.__new__ is asked with keywords -/
theorem ck_new (F : ExcBaseFacts B newId initId bmB) (hT : ∀ X : String, bm.contains (.type X) = bmB.contains (.type X)) {ps : List Value} {kw : List (Str × Value)} {Q : Unit → Shared → Prop}
    (hC : hp.get? C = some (excClassObj nm qn C N bs bm hdct sn sub ab col dd k0 k1 k2 k3 k5 newId)) (hq : Q () ⟨hp, gs, dr, tk, os⟩) :
    wpAny M A (checkBuiltinCall newId ⟨.ref C :: ps, kw⟩) Q E ⟨hp, gs, dr, tk, os⟩ := by
  have inB : (Value.ref C :: bm).contains (.type B) = true := by
    rw [List.contains_cons, hT, F.hasB]; exact Bool.or_true _
  have st := F.noStar
  simp only [checkBuiltinCall, F.newKind, F.newSplit, F.newRow]
  repeat (first
    | refine wpAny_loadPart_at hC ?_
    | (refine wpAny_isSubtype_exc hC ?_; rw [inB])
    | refine wpAny_staticBase_exc hC ?_
    | refine wpAny_madeBy_exc hC ?_
    | simp only [bne_self_eq_false, Bool.false_eq_true, if_false]
    | wp_step)
  exact hq
/-- type.__call__ is asked with keywords -/
theorem ck_type {ps : List Value} {kw : List (Str × Value)} {Q : Unit → Shared → Prop}
    (hC : hp.get? C = some (excClassObj nm qn C N bs bm hdct sn sub ab col dd k0 k1 k2 k3 k5 newId)) (hq : Q () ⟨hp, gs, dr, tk, os⟩) :
    wpAny M A (checkBuiltinCall "type.__call__" ⟨.ref C :: ps, kw⟩) Q E ⟨hp, gs, dr, tk, os⟩ := by
  have z3 := tc_sub
  have tyC : (⟨hp, gs, dr, tk, os⟩ : Shared).TypeIs (.ref C) "type" := ⟨_, hC, rfl⟩
  simp only [checkBuiltinCall, tc_kind, tc_split]
  repeat (any_goals (first
    | assumption
    | with_reducible refine wpAny_loadPart_at hC ?_
    | with_reducible refine wpAny_onRaise ?_
    | with_reducible refine wpAny_map ?_
    | wp_step))
/-- BaseException.__new__ run with keywords -/
theorem run_new (F : ExcBaseFacts B newId initId bmB) (hT : ∀ X : String, bm.contains (.type X) = bmB.contains (.type X)) {ps : List Value} {kw : List (Str × Value)}
    (hC : hp.get? C = some (excClassObj nm qn C N bs bm hdct sn sub ab col dd k0 k1 k2 k3 k5 newId)) (hps : ps.length ≤ sizeLine)
    (hq : R (.ok (.ret (.ref (hp.objs.size + 1)))) ⟨(hp.push (kdv_tup ps)).push (excO C hp.objs.size), gs, dr, tk, os⟩) :
    codeAny (model prog w) A (.builtin newId ⟨.ref C :: ps, kw⟩) R ⟨hp, gs, dr, tk, os⟩ := by
  have en := F.ends
  have inB : (Value.ref C :: bm).contains (.type B) = true := by
    rw [List.contains_cons, hT, F.hasB]; exact Bool.or_true _
  have inA : (Value.ref C :: bm).contains (.type "AttributeError") = false := by
    rw [List.contains_cons, hT, F.noAttr]; rfl
  have inN : (Value.ref C :: bm).contains (.type "NameError") = false := by
    rw [List.contains_cons, hT, F.noName]; rfl
  refine codeAny_builtinAt F.entry ?_
  unfold Builtin.«BaseException.__new__»
  refine PySem.wpAt_bind ?_
  show PySem.wpAt _ _ _ (stack >>= _) _ _ _
  refine PySem.wpAt_bind (PySem.wpAt_stack fun x y => PySem.wpAt_of_wpAny ?_)
  wp_walk
  refine PySem.wpAt_of_wpAny ?_
  rw [F.owner]
  repeat (first
    | with_reducible refine wpAny_madeHere_exc F.canon hC ?_
    | with_reducible refine wpAny_loadPart_at hC ?_
    | (with_reducible refine wpAny_isSubtype_exc hC ?_; first | rw [inB] | rw [inA] | rw [inN])
    | wp_step)
  show R _ _
  rw [Heap.size_push]
  exact hq
/-- type.__call__ with keywords: the new exception, then the own __init__ with the same -/
theorem run_type (F : ExcBaseFacts B newId initId bmB) (hT : ∀ X : String, bm.contains (.type X) = bmB.contains (.type X)) {ps : List Value} {kw : List (Str × Value)} {fI : Addr} {Q : Fin → Shared → Prop}
    (hC : hp.get? C = some (excClassObj nm qn C N bs bm hdct sn sub ab col dd k0 k1 k2 k3 k5 newId))
    (hi : Looks (model prog w) hp (typeLookup (.ref C) "__init__") (some (.ref fI))) (hb : ∀ me, Looks (model prog w) hp (bindSpecial (.ref fI) me) (.ref fI, [me])) (hps : ps.length ≤ sizeLine)
    (hq : codeAny (model prog w) A (.call (.ref fI) ⟨.ref (hp.objs.size + 1) :: ps, kw⟩)
      (fun r s' => match r with | .ok (.ret v) => v = .none ∧ Q (.done (.ret (.ref (hp.objs.size + 1)))) s' | .ok _ => False | .error e => E e s')
      ⟨(hp.push (kdv_tup ps)).push (excO C hp.objs.size), gs, dr, tk, os⟩) :
    wpAny (model prog w) A (Builtin.«type.__call__» ⟨.ref C :: ps, kw⟩) Q E ⟨hp, gs, dr, tk, os⟩ := by
  repeat (first
    | with_reducible refine wpAny_loadPart_at hC ?_
    | with_reducible refine wpAny_madeBy_exc hC ?_
    | wp_step)
  refine codeAny_call_builtin_code (Code.quiet_builtin _ F.quiet) (ck_new F hT hC ?_)
  refine run_new F hT hC hps ?_
  show wpAny _ _ _ _ _ _
  have up : ∀ b o, hp.get? b = some o → ((hp.push (kdv_tup ps)).push (excO C hp.objs.size)).get? b = some o := fun b o q =>
    Heap.get?_push_of_some _ (Heap.get?_push_of_some _ q)
  have hC2 := up _ _ hC
  have me : ((hp.push (kdv_tup ps)).push (excO C hp.objs.size)).get? (hp.objs.size + 1) = some (excO C hp.objs.size) := by heap_get
  have inC : (Value.ref C :: bm).contains (.ref C) = true := by simp
  have i2 := hi.keeps up
  have b2 := (hb (.ref (hp.objs.size + 1))).keeps up
  unfold isInstance
  repeat (first
    | with_reducible refine wpAny_loadPart_at me ?_
    | (with_reducible refine wpAny_isSubtype_exc hC2 ?_; rw [inC])
    | wp_step)
  show wpAny _ _ (typeLookup (.ref C) _) _ _ _
  refine i2.at ?_
  refine wpAny_holding (wpAny_bind (b2.at ?_))
  refine wpAny_bind (wpAny_call (codeAny_mono hq fun r s' z => ?_))
  rcases r with e | (v | _ | _ | _) <;> first | exact z | exact z.elim | skip
  obtain ⟨rfl, z⟩ := z
  first
    | exact wpAny_pure (wpAny_pure z)
    | (wp_walk; exact z)
/-- C(.., k = v) -/
theorem run_cls (F : ExcBaseFacts B newId initId bmB) (hT : ∀ X : String, bm.contains (.type X) = bmB.contains (.type X)) {ps : List Value} {kw : List (Str × Value)} {fI : Addr}
    (hC : hp.get? C = some (excClassObj nm qn C N bs bm hdct sn sub ab col dd k0 k1 k2 k3 k5 newId))
    (hi : Looks (model prog w) hp (typeLookup (.ref C) "__init__") (some (.ref fI))) (hb : ∀ me, Looks (model prog w) hp (bindSpecial (.ref fI) me) (.ref fI, [me])) (hps : ps.length ≤ sizeLine)
    (hq : codeAny (model prog w) (A.under (.builtin "type.__call__" ⟨.ref C :: ps, kw⟩)) (.call (.ref fI) ⟨.ref (hp.objs.size + 1) :: ps, kw⟩) (InitBack (hp.objs.size + 1) R)
      ⟨(hp.push (kdv_tup ps)).push (excO C hp.objs.size), gs, dr, tk, os⟩) :
    codeAny (model prog w) A (.call (.ref C) ⟨ps, kw⟩) R ⟨hp, gs, dr, tk, os⟩ := by
  have z1 := tc_lookup
  have z2 := tc_bind (.ref C)
  have tyC : (⟨hp, gs, dr, tk, os⟩ : Shared).TypeIs (.ref C) "type" := ⟨_, hC, rfl⟩
  refine codeAny_of_tree ?_
  show wpAny _ _ (callAny (.ref C) _) _ _ _
  repeat (any_goals (first
    | assumption
    | with_reducible refine wpAny_loadPart_at hC ?_
    | wp_step))
  refine ⟨rfl, ?_⟩
  refine codeAny_call_builtin_at (Code.quiet_builtin _ (by decide +kernel)) entry_typeCall (ck_type hC (run_type F hT hC hi hb hps ?_))
  refine codeAny_mono hq fun r s' z => ?_
  rcases r with e | (v | _ | _ | _) <;> exact z
end
end Vx
namespace L2.Vx
open PySem PySem.Spec PyProof.Rows
/-! ### the layer: an exception as a value -/
/-- what the written part says of a class of errors, further: what isinstance and a field's look ask -/
structure ErC (K : PySem.W.Frag) (C : Addr) : Prop where
  ox : OexC K C
  ga : PySem.W.findIn K (.ref C) "__getattribute__" = some (some (.builtin "BaseException.__getattribute__"))
  gg : PySem.W.findIn K (.ref C) "__getattr__" = some none
  cl : PySem.W.findIn K (.ref C) "__class__" = some (some (.builtin "object.__class__"))
structure Spc (K : PySem.W.Frag) : Prop where
  hn : PySem.W.specialIn K (.builtin "object.__class__") "__get__" = some (some (.builtin "getset_descriptor.__get__"))
  ht : PySem.W.takesIn K (.builtin "object.__class__") = some true
section
variable {X : Cx} {pins : List (Addr × Obj)} {σ : St} {H : Hp} {s : Shared} {C fI : Addr} {k : Nat} {fd : FuncData} {ps ks : List Str} {sp : Sp} {x : Str} {p pos apos : Pos} {e o : Expr} {es : List Expr} {kws : List Keyword} {te : TE} {ta tk : TA}
abbrev NoX : XK := fun _ _ _ => False
/-- the making runs: __init__ finds the new exception at a -/
theorem mkv_run {CX : CXT} {us ar : List Value} {vs : List V} {Q : VK} (T : OexC X.K C) (iC : PySem.W.findIn X.K (.ref C) "__init__" = some (some (.ref fI))) (tI : PySem.W.typeIn X.K (.ref fI) = some (.type "function"))
    (F1 : FnOk X.prog X.w X.K X.mg X.base CX k fI fd ps sp) (hr : Room (k + 1) X.A) (hx : Passes CX X NoX) (I : Inv X pins σ H s) (hl : us.length ≤ sizeLine) (kw : List (Str × Value))
    (hb : ∀ (a : Addr) (s' : Shared), X.K.In s'.heap → BindsTo s' fd ⟨Value.ref a :: us, kw⟩ (ps.zip (.ref a :: ar))) (r : Vals vs ar)
    (h : ∀ a, H a = none → sp (.ref a :: vs) (upd H a (exo a C none)) (fun v H2 => v = .non ∧ Q (.ref a) H2) NoX) :
    wpAny (model X.prog X.w) X.A (call (.ref C) us kw) (EP X pins σ Q) X.xe s := by
  obtain ⟨nm, q, N, bs, bm, sn, sub, ab, col, dd, k0, k1, k2, k3, k5, hC, hbm⟩ := T.cls
  obtain ⟨hp, gs, dr, tk, os⟩ := s
  have na : H (hp.objs.size + 1) = none := I.hok.fresh (Nat.le_succ _)
  have w1 := h _ na
  have up : ∀ b o, hp.get? b = some o → ((hp.push (PySem.W.kdv_tup us)).push (PySem.HandSPX.excO C hp.objs.size)).get? b = some o := fun b o z =>
    Heap.get?_push_of_some _ (Heap.get?_push_of_some _ z)
  have me : ((hp.push (PySem.W.kdv_tup us)).push (PySem.HandSPX.excO C hp.objs.size)).get? (hp.objs.size + 1) = some (PySem.HandSPX.excO C hp.objs.size) := by heap_get
  have J : Inv X pins σ (upd H (hp.objs.size + 1) (exo (hp.objs.size + 1) C none)) ⟨(hp.push (PySem.W.kdv_tup us)).push (PySem.HandSPX.excO C hp.objs.size), gs, dr, tk, os⟩ :=
    Inv.laid (t' := tk) I up (Nat.le_succ _) (exo_ok me)
  refine wpAny_call (_root_.Vx.run_cls F.excBase_ValueError (fun Y => PySem.HandSPX.refsVE_contains Y bm hbm) (I.kIn _ _ hC) (PySem.W.looks_findIn I.kIn iC) (fun self => PySem.W.bind_fn I.kIn self tI) hl ?_)
  have r2 : Vals (V.ref (hp.objs.size + 1) :: vs) (Value.ref (hp.objs.size + 1) :: ar) := .cons rfl r
  refine codeAny_mono (F1.run _ X.stack _ _ ⟨Value.ref (hp.objs.size + 1) :: us, kw⟩ (.ref (hp.objs.size + 1) :: ar) _ _ NoX (hr.make C us kw) (J.env0.make C us kw) (hb _ _ J.kIn) r2 w1) fun res s' z => ?_
  cases res with
  | error er => exact hx pins σ _ _ er s' J z
  | ok fl =>
    cases fl with
    | ret u =>
      obtain ⟨v, H3, J3, rv, ev, q3⟩ := J.after z
      subst ev
      exact ⟨rv, ⟨V.ref (hp.objs.size + 1), H3, J3, rfl, q3⟩⟩
    | next => exact False.elim z
    | brk => exact False.elim z
    | cont => exact False.elim z
/-- C(e) as a value -/
def tMkV (C : Addr) (sp : Sp) (ta : TA) : TE := fun σ H Q => ta σ H fun vs H1 => vs.length ≤ 1000 ∧ ∀ a, H1 a = none → sp (.ref a :: vs) (upd H1 a (exo a C none)) (fun v H2 => v = .non ∧ Q (.ref a) H2) NoX
theorem pe_mkv {CX : CXT} (T : OexC X.K C) (iC : PySem.W.findIn X.K (.ref C) "__init__" = some (some (.ref fI))) (tI : PySem.W.typeIn X.K (.ref fI) = some (.type "function"))
    (F1 : FnOk X.prog X.w X.K X.mg X.base CX k fI fd ps sp) (hr : Room (k + 1) X.A) (hb : Binds X.K fd ps []) (hx : Passes CX X NoX) (hg : Gl X x) (hm : X.mg x = some (.ref C)) (ha : PA X (e :: es) ta)
    (hdb : (x == ("__debug__" : Str)) = false := by decide) (he : starEach (e :: es) X.env = (false, eval e X.env) :: starEach es X.env := by rfl) (hpl : (backTo pos (starEach es X.env)).any (·.1) = false := by rfl) :
    PE X (.Call (.Name x p) (e :: es) [] pos) (tMkV C sp ta) := by
  refine ⟨fun pins s σ H Q I h => ?_⟩
  refine wpAny_Call_Name_kw (ld_glob I hg hm ?_ hdb)
  refine PySem.W.callWith_K (h₀ := X.base) I.ok.mod.kin T.kC (thn (ha.run pos pins s σ H _ I h) fun us s1 ⟨vs, H1, I1, r1, hz, q1⟩ => ⟨I1.kIn, ?_⟩) he hpl
  have hl1 : us.length = vs.length := r1.length.symm
  refine mkv_run (us := us) (ar := us) T iC tI F1 hr hx I1 (by rw [hl1, sizeLine_eq]; omega) [] (fun a s' X' => ?_) r1 q1
  have z := F1.len _ _ _ _ (q1 _ (I1.hok.fresh (Nat.le_refl _)))
  have := hb s' (.ref a :: us) X' (by rw [List.append_nil, List.length_cons, hl1]; exact z)
  rw [List.append_nil] at this
  exact this
/-- C(k = e) as a value -/
theorem pe_mkvK {CX : CXT} (T : OexC X.K C) (iC : PySem.W.findIn X.K (.ref C) "__init__" = some (some (.ref fI))) (tI : PySem.W.typeIn X.K (.ref fI) = some (.type "function"))
    (F1 : FnOk X.prog X.w X.K X.mg X.base CX k fI fd ps sp) (hr : Room (k + 1) X.A) (hx : Passes CX X NoX) (hg : Gl X x) (hm : X.mg x = some (.ref C)) (hkw : PK X kws tk)
    (hb : ∀ (s' : Shared) (us ws : List Value), us.length = 1 → ws.length = ks.length → X.K.In s'.heap → BindsTo s' fd ⟨us, ks.zip ws⟩ (ps.zip (us ++ ws))) (hlk : ps.length = ks.length + 1)
    (hall : (backToKw pos (keywordEach kws X.env)).all (·.1.isSome) = true := by rfl) (hks : (backToKw pos (keywordEach kws X.env)).filterMap (·.1) = ks := by rfl) (hdb : (x == ("__debug__" : Str)) = false := by decide)
    (hpl : ((backTo pos (starEach [] X.env)).any (·.1) || (backToKw pos (keywordEach kws X.env)).any (·.1.isNone)) = false := by rfl) :
    PE X (.Call (.Name x p) [] kws pos) (tMkV C sp tk) := by
  refine ⟨fun pins s σ H Q I h => ?_⟩
  refine wpAny_Call_Name_kw (ld_glob I hg hm ?_ hdb)
  refine PySem.W.callWith_KW0 (h₀ := X.base) I.ok.mod.kin T.kC hall ?_ hpl
  refine thn (hkw.run pos pins s σ H _ I h) fun ws s2 ⟨zs, H2, I2, rz, hz, q2⟩ => ⟨I2.kIn, ?_⟩
  rw [hks]
  have z := F1.len _ _ _ _ (q2 _ (I2.hok.fresh (Nat.le_refl _)))
  have hl1 : ws.length = zs.length := rz.length.symm
  refine mkv_run (us := []) (ar := ws) T iC tI F1 hr hx I2 (Nat.zero_le _) (ks.zip ws) (fun a s' X' => ?_) rz q2
  exact hb s' [.ref a] ws rfl (by rw [hl1]; simp only [List.length_cons] at z; omega) X'
/-- e.f, e an exception that is tracked with its dict -/
def tXf (f : Str) (K : PySem.W.Frag) (te : TE) : TE := fun σ H Q => te σ H fun x H1 => ∃ (a C d : Addr) (fs : List (Str × V)) (v : V), x = .ref a ∧ ErC K C ∧ PySem.W.findIn K (.ref C) f = some none ∧ PySem.W.hasDictIn K C = true ∧
  H1 a = some (exo a C (some d)) ∧ H1 d = some (exd d fs) ∧ fs.lookup f = some v ∧ Q v H1
theorem inst_exo {H : Hp} {h : Heap} {P : Program} {w : World} {a C d : Addr} {od : Obj} (ok : HOk P w H h) (ha : H a = some (exo a C (some d))) (hd : h.get? d = some od) : ∃ ox, PySem.W.InstAt h a ox C (some od) := by
  obtain ⟨t1, ho⟩ := exo_at ok ha
  exact ⟨_, ho, rfl, rfl, hd⟩
theorem pe_xf {f : Str} (he : PE X e te) (hb : attributeBase e f X.env (eval e X.env) = eval e X.env := by rfl) : PE X (.Attribute e f pos) (tXf f X.K te) := by
  refine ⟨fun pins s σ H Q I h => ?_⟩
  refine attr_of hb (thn (he.run pins s σ H _ I h) fun u s1 hh => ?_)
  obtain ⟨x, H1, I1, rx, a, C, d, fs, v, ex, T, hno, hdc, ea, ed, lf, q⟩ := hh
  subst ex
  obtain rfl : u = Value.ref a := rx
  obtain ⟨mA, hns, rel⟩ := exd_at I1.hok ed
  obtain ⟨od, ho, hl⟩ := lookIn_ns hns
  obtain ⟨w', hw, rw'⟩ := RelO.some_of (v := v) (o := mA f) (by rw [← lf]; exact rel f)
  obtain ⟨ox, J⟩ := inst_exo I1.hok ea ho
  exact PySem.HandSPX.exc_get I1.kIn J T.ga T.gg T.ox.exC (PySem.W.findObj_own hdc hno rfl (by rw [hl, hw])) (handed_of rw') ⟨v, H1, I1.tok _, rw', q⟩
/-- isinstance(e, c), e an exception that is tracked with its dict, or without one -/
def rXi (K : PySem.W.Frag) : List V → Hp → VK → Prop := fun xs H Q => ∃ (a C : Addr) (d : Option Addr) (c : V) (u : Value) (b : Bool), xs = [.ref a, c] ∧ ClsV c u ∧ ErC K C ∧ PySem.W.mroIn K C (.type "object") = some true ∧ PySem.W.isClsIn K C = true ∧
  H a = some (exo a C d) ∧ (∀ d', d = some d' → ∃ fs, H d' = some (exd d' fs)) ∧ PySem.W.kitOne K (.ref C) u = some b ∧ Q (.bl b) H
theorem call_xi (S : Spc X.K) : CallR X (.builtin "isinstance") (rXi X.K) := by
  intro pins s σ H xs us Q I r h
  obtain ⟨a, C, d, c, u, b, rfl, k, T, hm, hcl, ea, hd, e, q⟩ := h
  obtain ⟨u1, u2, rfl, r1, r2⟩ := vals2 r
  obtain rfl : u1 = Value.ref a := r1
  have e2 := k.eq r2
  subst e2
  have J : ∃ ox od, PySem.W.InstAt s.heap a ox C od := by
    obtain ⟨t1, ho⟩ := exo_at I.hok ea
    cases d with
    | none => exact ⟨_, none, ho, rfl, rfl, trivial⟩
    | some d' =>
      obtain ⟨fs, ed⟩ := hd d' rfl
      obtain ⟨mA, hns, rel⟩ := exd_at I.hok ed
      obtain ⟨od, ho', hl⟩ := lookIn_ns hns
      exact ⟨_, some od, ho, rfl, rfl, ho'⟩
  obtain ⟨ox, od, J⟩ := J
  exact PySem.W.kia_one (PySem.W.kitx_exc hcl T.ga T.gg T.ox.exC T.cl S.hn S.ht hm) I.kIn J e (fun z => nomatch z) fun tk => ⟨.bl b, H, I.tok tk, rfl, q⟩
end
end L2.Vx

namespace Vy
open PySem
open Sem (wp)
open AutoSeq1 (wpAny_loadPart')
theorem meets_enumT (l : Addr) (items : Array Value) (n : Nat) (dct : Option Addr) (sl : Array (Option Value)) :
    Meets (Builtin.«enumerate.__new__» ⟨[.type "enumerate", .ref l], []⟩) (fun _ R s => s.heap.get? l = some { cls := .type "tuple", dict := dct, data := .seq items n, slots := sl } ∧
      R (.ok (.ret (.ref (s.heap.push { cls := .type "tuple_iterator", data := .fields #[.ref l, .int 0 0] }).objs.size)))
        { s with heap := (s.heap.push { cls := .type "tuple_iterator", data := .fields #[.ref l, .int 0 0] }).push { cls := .type "enumerate", data := .fields #[.none, .bool false, .ref s.heap.objs.size, rawInt 0, .none, .none] } }) :=
  .of_wp fun prog w A R s h => by
    obtain ⟨hp, g, d, tk, os⟩ := s
    obtain ⟨hl, h⟩ := h
    have sb := sub_enumerate
    have hT : Heap.IsTuple (Shared.heap ⟨hp, g, d, tk, os⟩) l items := ⟨_, hl, rfl, n, rfl⟩
    wp_walk using wpAny_loadPart' hl
    refine wpAny_stack_any fun st => wpAny_pure ?_
    split
    · rename_i c _ _ _ _ _
      cases (c == Value.type "enumerate") <;> (wp_walk using wpAny_loadPart' hl, wpAny_pyIter_tuple hT; exact ⟨_, rfl, h⟩)
    · wp_walk using wpAny_loadPart' hl, wpAny_pyIter_tuple hT
      exact ⟨_, rfl, h⟩
theorem call_enumT {prog : Program} {w : World} {A : Around} {E : Value → Shared → Prop} {s : Shared} {l : Addr} {items : Array Value} {Q : Value → Shared → Prop} (hT : s.heap.IsTuple l items)
    (h : ∀ h', IsEnum h' (s.heap.objs.size + 1) s.heap.objs.size 0 .none → h'.IsTupleIter s.heap.objs.size l 0 → h'.objs.size = s.heap.objs.size + 2 →
      (∀ b o, s.heap.get? b = some o → h'.get? b = some o) → Q (.ref (s.heap.objs.size + 1)) { s with heap := h' }) : wpAny (model prog w) A (call (.type "enumerate") [.ref l]) Q E s := by
  obtain ⟨⟨c, dct, dt, sl⟩, hl, hc, n, hd⟩ := hT
  simp only at hc hd
  subst hc hd
  refine callType_new F.called_enumerate (by decide) (F.typeCall_enumerate_1 _) (F.newCall_enumerate_1 _) (fun obj => F.args_object_init_2 obj _) F.entry_enumerate_new (meets_enumT l items n dct sl) ⟨hl, ?_⟩
  show _ ∧ _
  have z : (s.heap.push { cls := .type "tuple_iterator", data := .fields #[.ref l, .int 0 0] }).objs.size = s.heap.objs.size + 1 := Heap.size_push ..
  rw [z]
  have he : IsEnum ((s.heap.push { cls := .type "tuple_iterator", data := .fields #[.ref l, .int 0 0] }).push { cls := .type "enumerate", data := .fields #[.none, .bool false, .ref s.heap.objs.size, rawInt 0, .none, .none] }) (s.heap.objs.size + 1) s.heap.objs.size 0 .none := by
    have q := Heap.get?_push_size (s.heap.push { cls := .type "tuple_iterator", data := .fields #[.ref l, .int 0 0] }) (o := { cls := .type "enumerate", data := .fields #[.none, .bool false, .ref s.heap.objs.size, rawInt 0, .none, .none] }) rfl
    rw [z] at q
    exact q
  refine ⟨⟨_, he, rfl⟩, h _ he ⟨_, Heap.get?_push_of_some _ (Heap.get?_push_size _ rfl), rfl, rfl⟩ (by rw [Heap.size_push, z]) fun b o x => Heap.get?_push_of_some _ (Heap.get?_push_of_some _ x)⟩
end Vy
namespace L2.Vy
open PySem PySem.Spec PyProof.Rows
/-- enumerate over a tuple -/
def IteT (K : PySem.W.Frag) (a : Addr) : It :=
  ⟨fun i H => ∃ (xs : List V) (x : V), SqT K H a xs ∧ xs[i]? = some x,
    fun i H v H' => ∃ T x, v = .ref T ∧ H T = none ∧ H' = upd H T (.tup [.int (i : Nat), x]) ∧ ∀ xs, SqT K H a xs → xs[i]? = some x,
    fun i H => ∃ xs : List V, SqT K H a xs ∧ xs.length = i⟩
theorem turn_eT {P : Program} {w : World} {K : PySem.W.Frag} {elts : List Expr} {kk : Nat} {tpos : Pos} (a e it : Addr) :
    Turn P w K (.Tuple elts kk tpos) (IteT K a) [e, it] e (fun i h => (∃ old, IsEnum h e it ((i : Nat) : Int) old) ∧ h.IsTupleIter it a i ∧ e ≠ it ∧ a ≠ it ∧ e ≠ a) where
  mem := by simp
  obj := fun i h st b hb => by
    obtain ⟨⟨old, he⟩, ⟨o, ho, hc, hd⟩, _⟩ := st
    have eb : b = e ∨ b = it := by simpa using hb
    rcases eb with q | q
    · rw [q]; exact ⟨_, he, fun v z => nomatch z⟩
    · rw [q]; exact ⟨o, ho, fun v z => by rw [hd] at z; cases z⟩
  keep := fun i h h' st k => let ⟨⟨old, he⟩, hi, hn⟩ := st; ⟨⟨old, k e (by simp) _ he⟩, hi.at fun o q => k it (by simp) o q, hn⟩
  item := by
    intro X hP hw hK hc i pins s σ H E I hf st hg
    subst hP hw hK
    obtain ⟨⟨old, he⟩, hit, hne, hai, hea⟩ := st
    obtain ⟨xs, x, hq, hx⟩ := hg
    obtain ⟨its, rv, p, hz⟩ := I.tuple hq
    obtain ⟨u, hu, ru⟩ := rv.get hx
    have hi : i < its.toArray.size := by
      have := (List.getElem?_eq_some_iff.mp hu).1
      simpa using this
    have le : e < s.heap.objs.size := Heap.lt_size he
    have li : it < s.heap.objs.size := by obtain ⟨_, q, _⟩ := hit; exact Heap.lt_size q
    refine wpAny_pyNext_enum_itemD (Draws.tuple (show X.A.in1.handled = none from I.ok.hd hc) it a hai its.toArray) he ⟨hit, p⟩ hi hne (by simp [hne, hea]) fun y h' tk hy ho st' hT hsz hk => ?_
    obtain rfl : u = y := by
      have z : its.toArray[i]? = some u := by simpa using hu
      rw [z] at hy
      exact Option.some.inj hy
    refine ⟨_, rfl, wpAny_letOwnedTupleGo_enum (s := { s with heap := h', toks := tk + 1 }) ho fun h2 he' sb => ?_⟩
    have hT2 : h2.get? s.heap.objs.size = some { cls := .type "tuple", data := .seq #[.int i tk, u] } := (sb.2 _ (Nat.ne_of_gt le)).trans hT
    have new : ObjOk X.prog X.w (upd H s.heap.objs.size (.tup [.int (i : Nat), x])) h2 s.heap.objs.size (.tup [.int (i : Nat), x]) :=
      ⟨by show 2 ≤ sizeLine; decide, [.int i tk, u], .cons ⟨_, rfl⟩ (.cons ru .nil), ⟨_, hT2, rfl, _, rfl⟩⟩
    have J : Inv X pins σ (upd H s.heap.objs.size (.tup [.int (i : Nat), x])) { s with heap := h2, toks := tk + 1 } :=
      I.turnedNew (ch := [e, it]) (fun b ob hb q => (sb.2 b (fun z => hb (by simp [z]))).trans (hk b ob (fun z => hb (by simp [z])) (fun z => hb (by simp [z])) q)) hf (Nat.le_refl _) new
    refine ⟨.ref s.heap.objs.size, _, J, rfl, ⟨_, x, rfl, I.hok.fresh (Nat.le_refl _), rfl, fun ys hy => by rw [I.tuple_inj hy hq]; exact hx⟩, ⟨⟨u, ?_⟩, st'.1.at fun o q => (sb.2 it (Ne.symm hne)).trans q, hne, hai, hea⟩, fun b hb => ?_⟩
    · rw [show ((i + 1 : Nat) : Int) = (i : Int) + 1 by omega]
      exact he'
    · have lb : b < s.heap.objs.size := by
        have eb : b = e ∨ b = it := by simpa using hb
        rcases eb with z | z
        · rw [z]; exact le
        · rw [z]; exact li
      rw [upd_ne (Nat.ne_of_lt lb)]
      exact (hf b hb).1
  done := by
    intro X hP hw hK hc i pins s σ H E I hf st hg
    subst hP hw hK
    obtain ⟨⟨old, he⟩, hit, hne, hai, hea⟩ := st
    obtain ⟨xs, hq, hx⟩ := hg
    obtain ⟨its, rv, p, hz⟩ := I.tuple hq
    obtain ⟨f0, f1, f2, f3, f4, f5⟩ := hf it (by simp)
    have hi : i = its.toArray.size := by
      rw [← hx, rv.length]
      simp
    rw [hi] at hit
    exact wpAny_pyNext_enum_endD (Draws.tuple (show X.A.in1.handled = none from I.ok.hd hc) it a hai its.toArray) he ⟨hit, p⟩ fun h' eb => ⟨rfl, I.turned (t' := s.toks) (fun b o hb q => eb b o hb q) f0 f1 f3 f4 f5⟩
  self := fun A i s Q E st h => let ⟨⟨_, he⟩, _⟩ := st; wpAny_pyIter_enum he h
def iEnT (K : PySem.W.Frag) (ta : TA) : TI := fun σ H R => ta σ H fun vs H1 => ∃ a xs, vs = [.ref a] ∧ SqT K H1 a xs ∧ R (IteT K a) H1
theorem pi_enT {X : Cx} {e : Expr} {ta : TA} {p pos tpos : Pos} {elts : List Expr} {kk : Nat} (hg : Gl X "enumerate") (hm : X.mg "enumerate" = none) (ha : PA X [e] ta) (hs : starEach [e] X.env = [(false, eval e X.env)] := by rfl) :
    PI X (.Tuple elts kk tpos) (.Call (.Name "enumerate" p) [e] [] pos) (iEnT X.K ta) := by
  refine ⟨fun pins s σ H R I h => ?_⟩
  refine Call_ (ld_blt I hg hm boot_enumerate (PyProof.Rows.callWith_type1 (thn (ha.run pos pins s σ H _ I h) fun us s1 ⟨vs, H1, J, r1, q1⟩ => ?_) hs rfl))
  obtain ⟨a, xs, ex, hq, q⟩ := q1
  subst ex
  cases r1 with
  | cons r rr =>
    cases rr
    cases r
    obtain ⟨its, rv, tp, hz⟩ := J.tuple hq
    refine _root_.Vy.call_enumT tp fun h' he hit hsz hk => wpAny_pyIter_enum he ?_
    have J2 : Inv X pins σ H1 { s1 with heap := h' } := J.kept (t' := s1.toks) hk
    have la : a < s1.heap.objs.size := tp.lt
    refine ⟨s1.heap.objs.size + 1, [s1.heap.objs.size + 1, s1.heap.objs.size], _, _, H1, rfl, J2, turn_eT a (s1.heap.objs.size + 1) s1.heap.objs.size, ⟨⟨.none, he⟩, hit, Nat.succ_ne_self _, Nat.ne_of_lt la, Nat.ne_of_gt (Nat.lt_succ_of_lt la)⟩, fun b hb => ?_, q⟩
    have eb : b = s1.heap.objs.size + 1 ∨ b = s1.heap.objs.size := by simpa using hb
    have lb : s1.heap.objs.size ≤ b := by
      rcases eb with z | z
      · rw [z]; exact Nat.le_succ _
      · rw [z]; exact Nat.le_refl _
    exact J.fpOk lb (J.hok.fresh lb)
theorem walk_enT {K : PySem.W.Frag} {a : Addr} {xs : List V} : Walk (IteT K a) xs.length (fun H => SqT K H a xs) (YPair (fun i => some (.int (i : Nat))) (fun i => xs[i]?)) := by
  refine ⟨fun i _ hi q => ⟨xs, xs[i], q, List.getElem?_eq_getElem hi⟩, fun _ q => ⟨xs, q, rfl⟩, fun i H v H' _ q y => ?_⟩
  obtain ⟨T, x, z1, z2, z3, z4⟩ := y
  exact ⟨T, .int (i : Nat), x, z1, z2, z3, rfl, z4 xs q⟩
/-- x in o, o an instance whose class has a __contains__ of its own -/
structure Own1 (K : PySem.W.Frag) (C f : Addr) (m : Str) : Prop where
  hs : PySem.W.findIn K (.ref C) m = some (some (.ref f))
  hf : PySem.W.isFn K (.ref f) = true
def rInO (C : Addr) (sp : Sp) (neg : Bool) : R2 := fun x y H Q => ∃ a dx fs, y = .ref a ∧ H a = some (.ins C dx fs) ∧ sp [.ref a, x] H (fun v H' => ∃ b : Bool, v = .bl b ∧ Q (.bl (neg != b)) H') (fun _ _ _ => False)
section
variable {X : Cx} {CX : CXT} {k : Nat} {f C : Addr} {fd : FuncData} {ps : List Str} {sp : Sp}
theorem op_notInO (F : FnOk X.prog X.w X.K X.mg X.base CX k f fd ps sp) (hr : Room k X.A) (O : Own1 X.K C f "__contains__") (hb : Binds X.K fd ps []) (hx : Passes CX X (fun _ _ _ => False)) : OpR X (compareOp .NotIn) (rInO C sp true) := by
  intro pins s σ H x y v u Q I rx ry h
  obtain ⟨a, dx, fs, rfl, ha, q⟩ := h
  obtain rfl : u = Value.ref a := ry
  obtain ⟨mA, J, _⟩ := ins_get I.hok ha
  obtain ⟨od, J, _⟩ := J.look
  obtain ⟨m, fr⟩ := I.fr
  refine PySem.W.notIn_K fr I.ok.mod.kin J O.hs O.hf ?_
  refine thn (run_fn (dvs := []) (ds := []) F hr hb .nil hx I (show Vals [V.ref a, x] [Value.ref a, v] from .cons (show RelV (V.ref a) (Value.ref a) from rfl) (.cons rx .nil)) q) fun u' s1 hq => ?_
  obtain ⟨z, H', I', rz, b, ez, hq⟩ := hq
  subst ez
  obtain rfl : u' = Value.bool b := rz
  exact wpAny_truthy_bool ⟨.bl (true != b), H', I', by cases b <;> rfl, hq⟩
theorem op_inO (F : FnOk X.prog X.w X.K X.mg X.base CX k f fd ps sp) (hr : Room k X.A) (O : Own1 X.K C f "__contains__") (hb : Binds X.K fd ps []) (hx : Passes CX X (fun _ _ _ => False)) : OpR X (compareOp .In) (rInO C sp false) := by
  intro pins s σ H x y v u Q I rx ry h
  obtain ⟨a, dx, fs, rfl, ha, q⟩ := h
  obtain rfl : u = Value.ref a := ry
  obtain ⟨mA, J, _⟩ := ins_get I.hok ha
  obtain ⟨od, J, _⟩ := J.look
  obtain ⟨m, fr⟩ := I.fr
  refine PySem.W.in_K fr I.ok.mod.kin J O.hs O.hf ?_
  refine thn (run_fn (dvs := []) (ds := []) F hr hb .nil hx I (show Vals [V.ref a, x] [Value.ref a, v] from .cons (show RelV (V.ref a) (Value.ref a) from rfl) (.cons rx .nil)) q) fun u' s1 hq => ?_
  obtain ⟨z, H', I', rz, b, ez, hq⟩ := hq
  subst ez
  obtain rfl : u' = Value.bool b := rz
  exact wpAny_truthy_bool ⟨.bl (false != b), H', I', by cases b <;> rfl, hq⟩
/-- list.count of a text -/
def rCntS (K : PySem.W.Frag) : V → List V → Hp → VK → Prop := fun x xs H Q => ∃ (p : Addr) (ys : List Str) (k : Str), x = .ref p ∧ xs = [.str k] ∧ SqL K H p (ys.map V.str) ∧ Q (.int (ys.countP (· == k) : Nat)) H
def isS (k : Str) : Value → Bool
  | .str x _ => x == k
  | _ => false
theorem isS_at {A : Around} {s : Shared} {k : Str} {t : Tok} : ∀ {us : List Value} {ys : List Str}, Vals (ys.map V.str) us → ∀ y ∈ us, SeqAt.EqAt A s y (.str k t) (isS k y)
  | [], [], _, y, h => by simp at h
  | u :: us, y0 :: ys, .cons r rr, y, h => by
    rcases List.mem_cons.mp h with e | h
    · subst e
      obtain ⟨t', rfl⟩ := r
      intro prog w E Q hq
      refine wpAny_eqBool_str ?_
      show Q (decide (y0 = k)) s
      have : isS k (.str y0 t') = decide (y0 = k) := by
        show (y0 == k) = _
        by_cases e : y0 = k
        · rw [e]; simp
        · rw [decide_eq_false e]; simpa using e
      rw [← this]
      exact hq
    · exact isS_at rr y h
theorem isS_count {k : Str} : ∀ {us : List Value} {ys : List Str}, Vals (ys.map V.str) us → us.countP (isS k) = ys.countP (· == k)
  | [], [], _ => rfl
  | u :: us, y :: ys, .cons r rr => by
    obtain ⟨t', rfl⟩ := r
    rw [List.countP_cons, List.countP_cons, isS_count rr]
    rfl
theorem mt_scount : MtR X "list.count" (rCntS X.K) := by
  intro pins s σ H x xs v us Q I rx rxs h
  obtain ⟨p, ys, k, rfl, rfl, hs, q⟩ := h
  obtain rfl : v = Value.ref p := rx
  obtain ⟨u, rfl, ru⟩ := rxs.one
  obtain ⟨t, rfl⟩ := ru
  obtain ⟨its, rv, ⟨⟨cls, dd, data, sl⟩, n, ho, hc, hdn, hd⟩, hlen⟩ := I.list hs
  simp only at hc hd
  subst hc hd
  refine call_meets PySem.F.slot_list_count ⟨_, ho, rfl⟩ PySem.F.entry_list_count (PySem.F.args_list_count_2 _ _) (SeqAt.list_countAt p its.toArray n dd sl (.str k t) (isS k)) ⟨ho, fun y hy => isS_at rv y (by simpa using hy), ?_⟩
  refine ⟨.int (ys.countP (· == k) : Nat), H, I.tok _, ⟨s.toks, ?_⟩, q⟩
  rw [← isS_count rv]
end
end L2.Vy

namespace Vs
open PySem PySem.Spec PyProof.Rows SS
/-- which of the first i texts stand there -/
abbrev seen (xs : List Str) (i : Nat) : Str → Bool := fun y => (xs.take i).any (· == y)
/-- how many different ones -/
def dcn (xs : List Str) : Nat → Nat
  | 0 => 0
  | i + 1 => if seen xs i (xs.getD i Str.empty) = true then dcn xs i else dcn xs i + 1
theorem dcn_le (xs : List Str) : ∀ i, dcn xs i ≤ i
  | 0 => Nat.le_refl _
  | i + 1 => by
    have := dcn_le xs i
    unfold dcn
    split <;> omega
theorem getD_at {xs : List Str} {i : Nat} (h : i < xs.length) : xs[i]? = some (xs.getD i Str.empty) := by
  rw [List.getD_eq_getElem?_getD, List.getElem?_eq_getElem h]
  rfl
theorem take_one : ∀ {l : List Str} {i : Nat} {x : Str}, l[i]? = some x → l.take (i + 1) = l.take i ++ [x]
  | [], i, x, h => by simp at h
  | a :: l, 0, x, h => by
    have e : a = x := Option.some.inj h
    rw [e]; rfl
  | a :: l, i + 1, x, h => by
    have ih := take_one (l := l) (i := i) (x := x) h
    rw [List.take_succ_cons, ih]; rfl
theorem seen_next {xs : List Str} {i : Nat} (h : i < xs.length) (y : Str) : seen xs (i + 1) y = (seen xs i y || decide (y = xs.getD i Str.empty)) := by
  unfold seen
  rw [take_one (getD_at h), List.any_append]
  congr 1
  by_cases e : y = xs.getD i Str.empty
  · rw [decide_eq_true e, e]; simp
  · rw [decide_eq_false e]
    have : (xs.getD i Str.empty == y) = false := by simpa using fun z => e z.symm
    simp only [List.any_cons, List.any_nil, Bool.or_false]
    exact this
section
variable {prog : Program} {w : World} {A : Around} {R : Result → Shared → Prop} {J : Addr} {fp wr : List Addr} {G : Array GenState → Array GenState → Prop} {n : Nat} {Pi : Nat → Value → Prop} {St : Nat → Shared → Prop}
theorem fill (W : WalksS prog w A.in1 J fp wr G n Pi St) (a : Addr) (na : a ∉ fp) (xs : List Str) (hz : xs.length = n) (hb : n + 1 < scanBound) (hv : ∀ i v, Pi i v → ∃ t, v = .str (xs.getD i Str.empty) t) :
    ∀ (k i : Nat) (s : Shared), n - i = k → i ≤ n → St i s → s.heap.SetOf (PySem.strKind prog w) a (seen xs i) (dcn xs i) →
      (∀ s', Moved (a :: wr) G s s' → s'.heap.SetOf (PySem.strKind prog w) a (seen xs n) (dcn xs n) → R (.ok (.ret .none)) s') → codeAny (model prog w) A (.builtin "set.update.loop" ⟨[.ref a, .ref J], []⟩) R s := by
  have nw : a ∉ wr := fun q => na (W.sub _ q)
  have up : ∀ b ∈ wr, b ∈ a :: wr := fun b q => List.mem_cons_of_mem _ q
  intro k
  induction k with
  | zero =>
    intro i s hk hi st gS hR
    obtain rfl : i = n := by omega
    refine codeAny_builtin PyProof.Rows.F.entry_set_update_loop ?_
    rw [Around.under_plainId PyProof.Rows.F.plain_set_update_loop _]
    show wpAny _ A.in1 (pyNext (.ref J) >>= _) _ _ s
    refine wpAny_bind (W.done s _ _ st fun s' mv => ?_)
    show wpAny _ A.in1 (ret Value.none) _ _ s'
    obtain ⟨o, es, ep, t, ho, r⟩ := gS
    exact wpAny_pure (hR s' (mv.mono up) ⟨o, es, ep, t, mv.heap a _ nw ho, r⟩)
  | succ k ih =>
    intro i s hk hi st gS hR
    have lt : i < n := by omega
    refine codeAny_builtin PyProof.Rows.F.entry_set_update_loop ?_
    rw [Around.under_plainId PyProof.Rows.F.plain_set_update_loop _]
    show wpAny _ A.in1 (pyNext (.ref J) >>= _) _ _ s
    refine wpAny_bind (W.item i s _ _ lt st fun v s' pv st' mv => ?_)
    obtain ⟨t, rfl⟩ := hv i v pv
    have gS1 : s'.heap.SetOf (PySem.strKind prog w) a (seen xs i) (dcn xs i) := by
      obtain ⟨o, es, ep, tb, ho, r⟩ := gS
      exact ⟨o, es, ep, tb, mv.heap a _ nw ho, r⟩
    show wpAny _ A.in1 (holding [Value.str (xs.getD i Str.empty) t] (setAdd a (.str (xs.getD i Str.empty) t)) >>= _) _ _ s'
    refine wpAny_bind (wpAny_holding ?_)
    unfold setAdd
    refine wpAny_holding (wpAny_bind ((PySem.strKind prog w).pyHash (k := xs.getD i Str.empty) (strKind_is _ _ _ _) ?_))
    have rm : dcn xs i + 1 < scanBound := by have := dcn_le xs i; omega
    refine wpAny_setAddHashed_of (knd := PySem.strKind prog w) (s := { s' with toks := s'.toks + 1 }) (strKind_is _ _ _ _) rfl gS1 rm fun h' sb gS2 => ?_
    have gS3 : h'.SetOf (PySem.strKind prog w) a (seen xs (i + 1)) (dcn xs (i + 1)) := SetOf_congr gS2 (fun y => (seen_next (by omega) y).symm) rfl
    refine wpAny_pure ⟨plainId_quiet PyProof.Rows.F.plain_set_update_loop _, ih (i + 1) _ (by omega) lt (W.frame _ s' _ _ st' (Nat.le_succ _) fun b q o e => ?_) gS3 fun s2 mv2 gS4 => ?_⟩
    · rw [sb.2 b (fun z : b = a => na (by rw [← z]; exact q))]; exact e
    · refine hR s2 (Moved.trans W.gtrans ((mv.mono up).then_heap (Nat.le_succ _) fun b o q e => ?_) mv2) gS4
      rw [sb.2 b (fun z : b = a => q (by rw [z]; exact List.mem_cons_self))]; exact e
end
abbrev newSet (led : Bool) : Obj := { cls := .type "set", dict := none, data := .set #[] 0 (.fresh 0 0 led) }
section
variable {prog : Program} {w : World} {A : Around} {E : Value → Shared → Prop} {s : Shared}
/-- set(v) of a list or a tuple of texts: T its class, oi what its iterator is -/
theorem call_set {T : String} {oi : Obj} {l : Addr} {items : Array Value} {xs : List Str} {Q : Value → Shared → Prop} {Hl : Heap → Prop} {Si : Addr → Nat → Heap → Prop} (hl : Hl s.heap) (B : Begins (.ref l) oi Hl) (hT : ∀ h, Hl h → ∃ o, h.get? l = some o ∧ o.cls = .type T)
    (s1 : isSubtype (.type T) (.type "set") = pure false) (s2 : isSubtype (.type T) (.type "frozenset") = pure false) (ne : (Value.type T == Value.type "dict") = false) (ndc : T ≠ "dict")
    (W : ∀ J, l ≠ J → Walks prog w A.in1.in1.in1 J [J, l] [J] items.size (fun i v => items[i]? = some v) (Si J)) (S0 : ∀ h J, h.get? J = some oi → Hl h → Si J 0 h)
    (hi : StrsAre items.toList xs) (hb : xs.length + 1 < scanBound)
    (h : ∀ (h' : Heap) (tk : Nat), h'.SetOf (PySem.strKind prog w) s.heap.objs.size (seen xs xs.length) (dcn xs xs.length) → (∀ b o, b < s.heap.objs.size → s.heap.get? b = some o → h'.get? b = some o) → Q (.ref s.heap.objs.size) { s with heap := h', toks := tk }) :
    wpAny (model prog w) A (call (.type "set") [.ref l]) Q E s := by
  obtain ⟨c, tl, hmro⟩ := PySem.F.called_set.mro
  have z1 := PySem.F.called_set.made
  have z2 := PySem.F.called_set.sub
  refine wpAny_call (codeAny_of_tree ?_)
  show wpAny _ _ (callAny (.type "set") _) _ _ _
  refine wpAny_pure ⟨Code.quiet_builtin _ (by decide +kernel), codeAny_builtin PySem.F.entry_type_call ?_⟩
  rw [Around.under_plain (weight_type_call_type "set" [.ref l] []) rfl]
  have z3 := PySem.F.called_set.notType
  have z4 := PySem.F.called_set.canCreate
  have z5 := PySem.F.typeCall_set_1 (.ref l)
  repeat (any_goals (first | assumption | wp_step))
  refine codeAny_mono (code_set_new_1 (.ref l) (E := E) (Q₁ := fun ob t => ∃ led : Bool, ob = .ref s.heap.objs.size ∧ t = { s with heap := s.heap.push (newSet led) }) fun led => ⟨led, rfl, rfl⟩) fun r t hr => ?_
  cases r with
  | error e => exact hr
  | ok fl =>
    cases fl with
    | next => exact hr.elim
    | brk => exact hr.elim
    | cont => exact hr.elim
    | ret ob =>
      obtain ⟨led, rfl, rfl⟩ := hr
      have gA : (s.heap.push (newSet led)).get? s.heap.objs.size = some (newSet led) := Heap.get?_push_size _ rfl
      have tA : Shared.TypeIs { s with heap := s.heap.push (newSet led) } (.ref s.heap.objs.size) "set" := ⟨_, gA, rfl⟩
      have z6 := PySem.F.called_set.init.lookup
      have z7 := PySem.F.called_set.init.bind (.ref s.heap.objs.size)
      repeat (any_goals (first | assumption | wp_step))
      refine codeAny_mono (codeAny_call_builtin (R := wants (fun r t => r = .none ∧ ∃ h' tk, t = { s with heap := h', toks := tk } ∧ h'.SetOf (PySem.strKind prog w) s.heap.objs.size (seen xs xs.length) (dcn xs xs.length) ∧
          (∀ b o, b < s.heap.objs.size → s.heap.get? b = some o → h'.get? b = some o)) E) PySem.F.called_set.init.plain PySem.F.entry_set_init (check_set_init_1 tA ?_)) fun r2 t2 hr2 => ?_
      · have hl1 : Hl (s.heap.push (newSet led)) := B.keeps _ _ hl fun b o e => Heap.get?_push_of_some _ e
        obtain ⟨ol, hol, hcl⟩ := hT _ hl
        have hol1 : (s.heap.push (newSet led)).get? l = some ol := Heap.get?_push_of_some _ hol
        have tL : Shared.TypeIs { s with heap := s.heap.push (newSet led) } (.ref l) T := ⟨_, hol1, hcl⟩
        unfold Builtin.«set.__init__» noKeywords Builtin.Frozenset.updateFrom
        generalize hPI : pyIter = PI
        wp_walk
        subst hPI
        refine B.iter _ _ _ _ _ _ hl1 ?_
        refine wpAny_bind (wpAny_runValue ?_)
        have ll : l < s.heap.objs.size := Heap.lt_size hol
        have zJ : (s.heap.push (newSet led)).objs.size = s.heap.objs.size + 1 := Heap.size_push ..
        have nJ : l ≠ (s.heap.push (newSet led)).objs.size := by rw [zJ]; exact Nat.ne_of_lt (Nat.lt_succ_of_lt ll)
        have nA : s.heap.objs.size ∉ [(s.heap.push (newSet led)).objs.size, l] := by
          rw [zJ]
          simp only [List.mem_cons, List.not_mem_nil, or_false, not_or]
          exact ⟨Nat.ne_of_lt (Nat.lt_succ_self _), Nat.ne_of_gt ll⟩
        have hz : xs.length = items.size := by rw [← StrsAre.len_eq hi, Array.length_toList]
        have hl2 : Hl ((s.heap.push (newSet led)).push oi) := B.keeps _ _ hl1 fun b o e => Heap.get?_push_of_some _ e
        have gA2 : ((s.heap.push (newSet led)).push oi).get? s.heap.objs.size = some (newSet led) := Heap.get?_push_of_some _ gA
        refine fill ((W _ nJ).toS) s.heap.objs.size nA xs hz (by rw [← hz]; exact hb) (fun i v hv => strs_at hi i v (by rw [Array.getElem?_toList]; exact hv)) (items.size - 0) 0 _ (by omega) (Nat.zero_le _)
          (S0 _ _ (Heap.get?_push_size _ B.free) hl2) (SetOf_congr ((setObjOf_fresh (knd := PySem.strKind prog w) led).setOf gA2 (by unfold scanBound; omega)) (fun _ => rfl) rfl) fun s' mv gS => ?_
        obtain ⟨h', g', d', tk', os'⟩ := s'
        obtain rfl : g' = s.gens := mv.gens
        obtain rfl : d' = s.drawn := mv.drawn
        obtain rfl : os' = s.os := mv.os
        show wpAny _ _ _ _ _ _
        refine wpAny_pure ?_
        show wpAny _ _ (ret Value.none) _ _ _
        rw [← hz] at gS
        refine wpAny_pure ⟨rfl, h', tk', rfl, gS, fun b o q e => ?_⟩
        have b1 : b ≠ s.heap.objs.size := Nat.ne_of_lt q
        have b2 : b ≠ (s.heap.push (newSet led)).objs.size := by rw [zJ]; exact Nat.ne_of_lt (Nat.lt_succ_of_lt q)
        exact mv.heap b o (by simp only [List.mem_cons, List.not_mem_nil, or_false, not_or]; exact ⟨b1, b2⟩) (Heap.get?_push_of_some _ (Heap.get?_push_of_some _ e))
      · cases r2 with
        | error e => exact hr2
        | ok fl2 =>
          cases fl2 with
          | next => exact hr2.elim
          | brk => exact hr2.elim
          | cont => exact hr2.elim
          | ret r =>
            obtain ⟨rfl, h', tk, rfl, gS, kp⟩ := hr2
            repeat (any_goals (first | assumption | wp_step))
            exact h _ _ gS kp
end
/-! ### what the number of different texts tells -/
theorem dcn_nodup {xs : List Str} : ∀ {i : Nat}, i ≤ xs.length → (dcn xs i = i ↔ (xs.take i).Nodup)
  | 0, _ => by simp [dcn]
  | i + 1, h => by
    have ih := dcn_nodup (xs := xs) (i := i) (by omega)
    have le := dcn_le xs i
    have lt : i < xs.length := by omega
    rw [take_one (getD_at lt), List.nodup_append]
    unfold dcn
    by_cases q : seen xs i (xs.getD i Str.empty) = true
    · rw [if_pos q]
      have mem : xs.getD i Str.empty ∈ xs.take i := by
        obtain ⟨y, hy, e⟩ := List.any_eq_true.mp q
        have : y = xs.getD i Str.empty := by simpa using e
        rw [← this]; exact hy
      constructor
      · intro z; omega
      · intro z; exact absurd rfl (z.2.2 _ mem _ (by simp))
    · rw [if_neg q]
      have nmem : xs.getD i Str.empty ∉ xs.take i := fun hm => q (List.any_eq_true.mpr ⟨_, hm, by simp⟩)
      constructor
      · intro z
        refine ⟨ih.mp (by omega), by simp, fun a ha b hb e => ?_⟩
        have : b = xs.getD i Str.empty := by simpa using hb
        rw [e, this] at ha
        exact nmem ha
      · intro z
        have := ih.mpr z.1
        omega
end Vs
namespace L2.Vs
open PySem PySem.Spec PyProof.Rows _root_.Vs
/-- len(set(xs)), xs a list or tuple of some texts -/
def tLenS (K : PySem.W.Frag) (ta : TE) : TE := fun σ H Q => ta σ H fun x H1 => ∃ l, ∃ xs : List Str, x = .ref l ∧ (SqL K H1 l (xs.map V.str) ∨ SqT K H1 l (xs.map V.str)) ∧ xs.length ≤ 100 ∧ Q (.int (dcn xs xs.length)) H1
theorem pe_lenS {X : Cx} {a : Expr} {ta : TE} {p p2 q pos : Pos} (hc : X.calm = true) (hg : Gl X "len") (hm : X.mg "len" = none) (hg2 : Gl X "set") (hm2 : X.mg "set" = none) (ha : PE X a ta)
    (na : starEach [a] X.env = (false, eval a X.env) :: starEach [] X.env := by rfl) : PE X (.Call (.Name "len" p) [.Call (.Name "set" p2) [a] [] q] [] pos) (tLenS X.K ta) := by
  refine ⟨fun pins s σ H Q I h => ?_⟩
  refine Call_ (ld_blt I hg hm boot_len (PyProof.Rows.callWith_builtin1 (PyProof.Rows.args_cons ?_ rfl) rfl rfl))
  refine Call_ (ld_blt I hg2 hm2 boot_set (PyProof.Rows.callWith_type1 (PyProof.Rows.args_cons (thn (ha.run pins s σ H _ I h) fun v s1 ⟨x, H1, J, r1, q1⟩ => PyProof.Rows.args_nil ?_) na) na rfl))
  obtain ⟨l, xs, rfl, hq, hn, q1⟩ := q1
  obtain rfl : v = Value.ref l := r1
  have hh := J.ok.hd hc
  have sc : xs.length + 1 < scanBound := by unfold scanBound; omega
  have fin : ∀ (h' : Heap) (tk : Nat), h'.SetOf (PySem.strKind X.prog X.w) s1.heap.objs.size (seen xs xs.length) (dcn xs xs.length) → (∀ b o, b < s1.heap.objs.size → s1.heap.get? b = some o → h'.get? b = some o) →
      wpAny (model X.prog X.w) X.A (spliced (backTo pos (starEach [] X.env))) (fun vs s₂ => wpAny (model X.prog X.w) X.A (call (.builtin "len") (Value.ref s1.heap.objs.size :: vs)) (EP X pins σ Q) X.xe s₂) X.xe { s1 with heap := h', toks := tk } := fun h' tk gS kp => by
    refine PyProof.Rows.args_nil ?_
    have ld := dcn_le xs xs.length
    obtain ⟨o, es, ep, t, ho, hex, hd, _, _, _, hf, hnn⟩ := gS
    have J2 : Inv X pins σ H1 { s1 with heap := h', toks := tk } := J.kept fun b o e => kp b o (Heap.lt_size e) e
    exact call_len_set ho hex hd hf (by rw [hnn]; omega) ⟨.int (dcn xs xs.length), H1, J2.tok _, ⟨_, by rw [hnn]⟩, q1⟩
  rcases hq with hq | hq
  · obtain ⟨its, r, pl, hz⟩ := J.list hq
    refine call_set (T := "list") (items := its.toArray) (Si := fun J i h => h.IsListIter J l i ∧ h.IsList l its.toArray) (Hl := fun h => h.IsList l its.toArray) pl.isList (begins_list l its.toArray) (fun h z => let ⟨o, ho, hc, _⟩ := z; ⟨o, ho, hc⟩) PySem.F.sub_list_set PySem.F.sub_list_frozenset (by decide) (by decide)
      (fun J' ne => Walks.list (show X.A.in1.in1.in1.handled = none from hh) J' l ne its.toArray) (fun h J' e z => ⟨⟨_, e, rfl, rfl⟩, z⟩) (by simpa using strsAre_of r) sc fin
  · obtain ⟨its, r, pl, hz⟩ := J.tuple hq
    refine call_set (T := "tuple") (items := its.toArray) (Si := fun J i h => h.IsTupleIter J l i ∧ h.IsTuple l its.toArray) (Hl := fun h => h.IsTuple l its.toArray) pl (begins_tuple l its.toArray) (fun h z => let ⟨o, ho, hc, _⟩ := z; ⟨o, ho, hc⟩) PySem.F.sub_tuple_set PySem.F.sub_tuple_frozenset (by decide) (by decide)
      (fun J' ne => Walks.tuple (show X.A.in1.in1.in1.handled = none from hh) J' l ne its.toArray) (fun h J' e z => ⟨⟨_, e, rfl, rfl⟩, z⟩) (by simpa using strsAre_of r) sc fin
end L2.Vs

/-! An own class made, and a method called, where an exception may be caught: what is wanted of it may speak of the slots. -/
namespace L2.Vm
open PySem PySem.Spec PyProof.Rows
section
variable {X : Cx} {CX : CXT} {k : Nat} {f C : Addr} {fd : FuncData} {ps : List Str} {sp : Sp} {E : St → XK} {x m : Str} {p pos apos : Pos} {e o : Expr} {es : List Expr} {ta : TE} {t : TA}
def tMakeS (C : Addr) (sp : Sp) (E : St → XK) (t : TA) : TE := fun σ H Q => t σ H fun vs H1 => ∀ x dx, H1 x = none → H1 dx = none → dx ≠ x →
  sp (.ref x :: vs) (upd (upd H1 dx (.own x)) x (.ins C dx [])) (fun v H2 => v = .non ∧ Q (.ref x) H2) (E σ)
theorem run_makeS {pins : List (Addr × Obj)} {σ : St} {H : Hp} {s : Shared} {Q : VK} {us : List Value} {vs : List V} (M : Mk X.K C f) (F : FnOk X.prog X.w X.K X.mg X.base CX k f fd ps sp) (hr : Room (k + 1) X.A) (hb : Binds X.K fd ps [])
    (hx : PassesAt CX X σ (E σ)) (I : Inv X pins σ H s) (r : Vals vs us)
    (h : ∀ x dx, H x = none → H dx = none → dx ≠ x → sp (.ref x :: vs) (upd (upd H dx (.own x)) x (.ins C dx [])) (fun v H2 => v = .non ∧ Q (.ref x) H2) (E σ)) :
    wpAny (model X.prog X.w) X.A (call (.ref C) us) (EP X pins σ Q) X.xe s := by
  have hq := h (s.heap.objs.size + 1) s.heap.objs.size (I.hok.fresh (Nat.le_succ _)) (I.hok.fresh (Nat.le_refl _)) (Nat.ne_of_lt (Nat.lt_succ_self _))
  have I2 := Inv.made (C := C) I
  have r2 : Vals (V.ref (s.heap.objs.size + 1) :: vs) (Value.ref (s.heap.objs.size + 1) :: us) := .cons rfl r
  have hl : (Value.ref (s.heap.objs.size + 1) :: us).length = ps.length := by
    have e := r2.length
    rw [F.len _ _ _ _ hq] at e
    exact e.symm
  have b := hb _ (Value.ref (s.heap.objs.size + 1) :: us) I2.kIn (by rw [List.append_nil]; exact hl)
  rw [List.append_nil] at b
  refine wpAny_call (make_map (f := f) I.kIn M.makes M.init (beq_iff_eq.mp M.fn) (codeAny_mono (F.run _ X.stack _ _ ⟨Value.ref (s.heap.objs.size + 1) :: us, []⟩ (Value.ref (s.heap.objs.size + 1) :: us) _ _ (E σ) (hr.make C us [])
    (I2.env0.make C us []) b r2 hq) fun r s' hq' => ?_))
  cases r with
  | error e => exact hx pins _ _ e s' I2 hq'
  | ok fl =>
    cases fl with
    | ret u =>
      obtain ⟨v, H', I3, rv, ev, q3⟩ := I2.after hq'
      subst ev
      exact ⟨rv, ⟨V.ref (s.heap.objs.size + 1), H', I3, rfl, q3⟩⟩
    | next => exact False.elim hq'
    | brk => exact False.elim hq'
    | cont => exact False.elim hq'
theorem pe_makeS (M : Mk X.K C f) (F : FnOk X.prog X.w X.K X.mg X.base CX k f fd ps sp) (hr : Room (k + 1) X.A) (hg : Gl X x) (hm : X.mg x = some (.ref C)) (hb : Binds X.K fd ps []) (hx : ∀ σ, PassesAt CX X σ (E σ))
    (ha : PA X (e :: es) t) (hdb : (x == ("__debug__" : Str)) = false := by decide) (he : starEach (e :: es) X.env = (false, eval e X.env) :: starEach es X.env := by rfl) (hpl : (backTo pos (starEach es X.env)).any (·.1) = false := by rfl) :
    PE X (.Call (.Name x p) (e :: es) [] pos) (tMakeS C sp E t) := by
  refine ⟨fun pins s σ H Q I h => ?_⟩
  refine wpAny_Call_Name_kw (ld_glob I hg hm ?_ hdb)
  refine PySem.W.callWith_K (h₀ := X.base) I.ok.mod.kin M.kp (thn (ha.run pos pins s σ H _ I h) fun us s1 ⟨vs, H1, I1, r, q⟩ => ⟨I1.kIn, ?_⟩) he hpl
  exact run_makeS M F hr hb (hx σ) I1 r q
def tMethS1 (C : Addr) (m : Str) (sp : Sp) (E : St → XK) (ta : TE) (t : TA) : TE := fun σ H Q => ta σ H fun x H1 => ∃ a dx fs, x = .ref a ∧ H1 a = some (.ins C dx fs) ∧ fs.lookup m = none ∧
  t σ H1 fun vs H2 => sp (x :: vs) H2 Q (E σ)
theorem pe_methS {pl : Sem Bool} (he : PE X o ta) (c : Cls X.K C) (hm : Meth X.K C m f) (F : FnOk X.prog X.w X.K X.mg X.base CX k f fd ps sp) (hr : Room k X.A) (hb : Binds X.K fd ps []) (hx : ∀ σ, PassesAt CX X σ (E σ)) (ha : PA X (e :: es) t)
    (hst : starEach (e :: es) X.env = (false, eval e X.env) :: starEach es X.env := by rfl) (hpl : (backTo pos (starEach es X.env)).any (·.1) = false := by rfl)
    (ht : eval (.Call (.Attribute o m apos) (e :: es) [] pos) X.env = (do
      let ov ← eval o X.env
      standAt apos.atName
      let (f, first) ← holding [ov] (getMethod ov m pl)
      callWith pos f first (backTo pos (starEach (e :: es) X.env)) (backToKw pos (keywordEach [] X.env))) := by rfl) :
    PE X (.Call (.Attribute o m apos) (e :: es) [] pos) (tMethS1 C m sp E ta t) := by
  refine ⟨fun pins s σ H Q I h => ?_⟩
  refine PySem.W.methodCall_KW (pl := pl) (thn (he.run pins s σ H _ I h) fun u s1 ⟨x, H1, I1, rx, a, dx, fs, ex, ea, l, q⟩ => ?_) ht
  subst ex
  obtain rfl : u = Value.ref a := rx
  refine getmeth_ok I1 ea c hm l ?_
  refine PySem.W.callWith_K (first := [.ref a]) (h₀ := X.base) I.ok.mod.kin hm.kp (thn (ha.run pos pins s1 σ H1 _ I1 q) fun us s2 ⟨vs, H2, I2, r, q2⟩ => ⟨I2.kIn, ?_⟩) hst hpl
  exact run_fnS (us := .ref a :: us) (vs := .ref a :: vs) F hr hb (hx σ) I2 (.cons rfl r) q2
end
end L2.Vm

/-! Trees: values as trees D (leaves, lists, tuples, dicts, instances), what represents them in a heap (Rep), slots (Env, EnvOk), and readings of expressions over trees. -/
namespace L2.Tr
open PySem PySem.Spec PyProof.Rows
/-- a value as a tree: seq true is a list, seq false a tuple; a dict by its keys and values; an instance by its fields -/
inductive D where
  | leaf (v : V)
  | seq (b : Bool) (xs : List D)
  | dct (ks : List Key) (xs : List D)
  | obj (C : Addr) (ns : List Str) (xs : List D)
def leafy : V → Bool
  | .non => true
  | .bl _ => true
  | .int _ => true
  | .str x => decide (x.length ≤ 1000)
  | _ => false
abbrev mkS (b : Bool) (us : List V) : HO := cond b (.lst us) (.tup us)
abbrev Lim : Nat := 5000
mutual
def Rep (H : Hp) : D → V → Prop
  | .leaf x, v => v = x ∧ leafy x = true
  | .seq b ds, v => ∃ a us, v = .ref a ∧ H a = some (mkS b us) ∧ ds.length ≤ Lim ∧ Reps H ds us
  | .dct ks ds, v => ∃ a us, v = .ref a ∧ H a = some (.dK (ks.zip us)) ∧ ks.length = ds.length ∧ ds.length ≤ Lim ∧ Reps H ds us
  | .obj C ns ds, v => ∃ a dx us, v = .ref a ∧ H a = some (.ins C dx (ns.zip us)) ∧ ns.length = ds.length ∧ Reps H ds us
def Reps (H : Hp) : List D → List V → Prop
  | [], us => us = []
  | d :: ds, us => ∃ u r, us = u :: r ∧ Rep H d u ∧ Reps H ds r
end
/-- all that was tracked is as it was -/
def Ex (H H' : Hp) : Prop := ∀ a o, H a = some o → H' a = some o
theorem Ex.refl (H : Hp) : Ex H H := fun _ _ h => h
theorem Ex.trans {H H' H2 : Hp} (a : Ex H H') (b : Ex H' H2) : Ex H H2 := fun x o h => b x o (a x o h)
theorem Ex.new {H : Hp} {p : Addr} {o : HO} (h : H p = none) : Ex H (upd H p o) := fun a u e => by
  rw [upd_ne (ne_of_none e h)]; exact e
theorem Ex.back {H H' : Hp} {p : Addr} (e : Ex H H') (h : H' p = none) : H p = none := by
  cases q : H p with
  | none => rfl
  | some o => rw [e p o q] at h; cases h
mutual
theorem Rep.mono {H H' : Hp} (e : Ex H H') : ∀ {d : D} {v : V}, Rep H d v → Rep H' d v
  | .leaf x, v, h => by unfold Rep at h ⊢; exact h
  | .seq b ds, v, h => by
    unfold Rep at h ⊢
    obtain ⟨a, us, h1, h2, h3, h4⟩ := h
    exact ⟨a, us, h1, e _ _ h2, h3, Reps.mono e h4⟩
  | .dct ks ds, v, h => by
    unfold Rep at h ⊢
    obtain ⟨a, us, h1, h2, h3, h4, h5⟩ := h
    exact ⟨a, us, h1, e _ _ h2, h3, h4, Reps.mono e h5⟩
  | .obj C ns ds, v, h => by
    unfold Rep at h ⊢
    obtain ⟨a, dx, us, h1, h2, h3, h4⟩ := h
    exact ⟨a, dx, us, h1, e _ _ h2, h3, Reps.mono e h4⟩
theorem Reps.mono {H H' : Hp} (e : Ex H H') : ∀ {ds : List D} {us : List V}, Reps H ds us → Reps H' ds us
  | [], us, h => by unfold Reps at h ⊢; exact h
  | d :: ds, us, h => by
    unfold Reps at h ⊢
    obtain ⟨u, r, h1, h2, h3⟩ := h
    exact ⟨u, r, h1, Rep.mono e h2, Reps.mono e h3⟩
end
section
variable {H H' : Hp} {d : D} {ds es : List D} {u v : V} {us ws : List V}
theorem Reps.nil : Reps H [] [] := by unfold Reps; rfl
theorem Reps.cons (h : Rep H d u) (t : Reps H ds us) : Reps H (d :: ds) (u :: us) := by unfold Reps; exact ⟨u, us, rfl, h, t⟩
theorem Reps.un (h : Reps H (d :: ds) us) : ∃ u r, us = u :: r ∧ Rep H d u ∧ Reps H ds r := by unfold Reps at h; exact h
theorem Reps.un0 (h : Reps H [] us) : us = [] := by unfold Reps at h; exact h
theorem Rep.lf {x : V} (h : leafy x = true) : Rep H (.leaf x) x := by unfold Rep; exact ⟨rfl, h⟩
theorem Rep.un_lf {x : V} (h : Rep H (.leaf x) v) : v = x ∧ leafy x = true := by unfold Rep at h; exact h
theorem Rep.sq {b : Bool} {a : Addr} (h : H a = some (mkS b us)) (hl : ds.length ≤ Lim) (r : Reps H ds us) : Rep H (.seq b ds) (.ref a) := by unfold Rep; exact ⟨a, us, rfl, h, hl, r⟩
theorem Rep.un_sq {b : Bool} (h : Rep H (.seq b ds) v) : ∃ a us, v = .ref a ∧ H a = some (mkS b us) ∧ ds.length ≤ Lim ∧ Reps H ds us := by unfold Rep at h; exact h
theorem Rep.un_dct {ks : List Key} (h : Rep H (.dct ks ds) v) : ∃ a us, v = .ref a ∧ H a = some (.dK (ks.zip us)) ∧ ks.length = ds.length ∧ ds.length ≤ Lim ∧ Reps H ds us := by unfold Rep at h; exact h
theorem Rep.un_obj {C : Addr} {ns : List Str} (h : Rep H (.obj C ns ds) v) : ∃ a dx us, v = .ref a ∧ H a = some (.ins C dx (ns.zip us)) ∧ ns.length = ds.length ∧ Reps H ds us := by unfold Rep at h; exact h
theorem Rep.dc {ks : List Key} {a : Addr} (h : H a = some (.dK (ks.zip us))) (hk : ks.length = ds.length) (hl : ds.length ≤ Lim) (r : Reps H ds us) : Rep H (.dct ks ds) (.ref a) := by unfold Rep; exact ⟨a, us, rfl, h, hk, hl, r⟩
theorem Rep.ob {C dx : Addr} {ns : List Str} {a : Addr} (h : H a = some (.ins C dx (ns.zip us))) (hk : ns.length = ds.length) (r : Reps H ds us) : Rep H (.obj C ns ds) (.ref a) := by unfold Rep; exact ⟨a, dx, us, rfl, h, hk, r⟩
end
section
variable {H : Hp}
theorem Reps.len : ∀ {ds : List D} {us : List V}, Reps H ds us → us.length = ds.length
  | [], us, h => by rw [h.un0]; rfl
  | d :: ds, us, h => by
    obtain ⟨u, r, rfl, _, t⟩ := h.un
    rw [List.length_cons, List.length_cons, t.len]
theorem Reps.get : ∀ {ds : List D} {us : List V} {i : Nat} {d : D}, Reps H ds us → ds[i]? = some d → ∃ u, us[i]? = some u ∧ Rep H d u
  | [], us, i, d, h, e => by simp at e
  | d0 :: ds, us, 0, d, h, e => by
    obtain ⟨u, r, rfl, q, t⟩ := h.un
    cases e
    exact ⟨u, rfl, q⟩
  | d0 :: ds, us, i + 1, d, h, e => by
    obtain ⟨u, r, rfl, q, t⟩ := h.un
    obtain ⟨w, h1, h2⟩ := t.get (i := i) (d := d) (by simpa using e)
    exact ⟨w, by simpa using h1, h2⟩
theorem Reps.getV : ∀ {ds : List D} {us : List V} {i : Nat} {u : V}, Reps H ds us → us[i]? = some u → ∃ d, ds[i]? = some d ∧ Rep H d u := fun {ds us i u} h e => by
  have hl : i < us.length := (List.getElem?_eq_some_iff.mp e).1
  have hl2 : i < ds.length := by rw [← h.len]; exact hl
  obtain ⟨w, h1, h2⟩ := h.get (List.getElem?_eq_getElem hl2)
  rw [e] at h1
  cases h1
  exact ⟨_, List.getElem?_eq_getElem hl2, h2⟩
theorem Reps.app : ∀ {ds es : List D} {us ws : List V}, Reps H ds us → Reps H es ws → Reps H (ds ++ es) (us ++ ws)
  | [], es, us, ws, h, k => by rw [h.un0]; exact k
  | d :: ds, es, us, ws, h, k => by
    obtain ⟨u, r, rfl, q, t⟩ := h.un
    exact .cons q (t.app k)
theorem Reps.tk : ∀ (n : Nat) {ds : List D} {us : List V}, Reps H ds us → Reps H (ds.take n) (us.take n)
  | 0, _, _, _ => by rw [List.take_zero, List.take_zero]; exact .nil
  | n + 1, [], us, h => by rw [h.un0]; exact .nil
  | n + 1, d :: ds, us, h => by
    obtain ⟨u, r, rfl, q, t⟩ := h.un
    exact .cons q (t.tk n)
theorem Reps.dp : ∀ (n : Nat) {ds : List D} {us : List V}, Reps H ds us → Reps H (ds.drop n) (us.drop n)
  | 0, _, _, h => h
  | n + 1, [], us, h => by rw [h.un0]; exact .nil
  | n + 1, d :: ds, us, h => by
    obtain ⟨u, r, rfl, q, t⟩ := h.un
    exact t.dp n
theorem Reps.rev : ∀ {ds : List D} {us : List V}, Reps H ds us → Reps H ds.reverse us.reverse
  | [], us, h => by rw [h.un0]; exact .nil
  | d :: ds, us, h => by
    obtain ⟨u, r, rfl, q, t⟩ := h.un
    rw [List.reverse_cons, List.reverse_cons]
    exact t.rev.app (.cons q .nil)
theorem Reps.st {d : D} {u : V} (r : Rep H d u) : ∀ (i : Nat) {ds : List D} {us : List V}, Reps H ds us → Reps H (ds.set i d) (us.set i u)
  | _, [], us, h => by rw [h.un0]; exact .nil
  | 0, d0 :: ds, us, h => by
    obtain ⟨w, s, rfl, q, t⟩ := h.un
    exact .cons r t
  | i + 1, d0 :: ds, us, h => by
    obtain ⟨w, s, rfl, q, t⟩ := h.un
    exact .cons q (t.st r i)
theorem Reps.repl {d : D} {u : V} (r : Rep H d u) : ∀ n : Nat, Reps H (List.replicate n d) (List.replicate n u)
  | 0 => .nil
  | n + 1 => .cons r (Reps.repl r n)
theorem Reps.flat {d : D} : ∀ n : Nat, True := fun _ => trivial
/-- leaves -/
theorem Reps.lfs : ∀ {vs : List V}, (∀ v ∈ vs, leafy v = true) → Reps H (vs.map D.leaf) vs
  | [], _ => .nil
  | v :: r, h => .cons (.lf (h v List.mem_cons_self)) (Reps.lfs fun w hw => h w (List.mem_cons_of_mem _ hw))
theorem Reps.un_lfs : ∀ {vs us : List V}, Reps H (vs.map D.leaf) us → us = vs
  | [], us, h => h.un0
  | v :: r, us, h => by
    obtain ⟨u, s, rfl, q, t⟩ := h.un
    rw [q.un_lf.1, t.un_lfs]
end
/-! ### slots -/
inductive Sl where
  | un
  /-- a value that is not written to -/
  | pu (d : D)
  /-- a list, a dict, an instance of the def's own, which no other value holds -/
  | ow (d : D)
abbrev Env := List Sl
/-- what stands at an own thing's address -/
def Top (G : Hp) : D → HO → Prop
  | .seq true ds, o => ∃ us, o = .lst us ∧ ds.length ≤ Lim ∧ Reps G ds us
  | .dct ks ds, o => ∃ us, o = .dK (ks.zip us) ∧ ks.length = ds.length ∧ ds.length ≤ Lim ∧ Reps G ds us
  | .obj C ns ds, o => ∃ dx us, o = .ins C dx (ns.zip us) ∧ ns.length = ds.length ∧ Reps G ds us
  | _, _ => False
theorem Top.mono {G G2 : Hp} (e : Ex G G2) : ∀ {d : D} {o : HO}, Top G d o → Top G2 d o
  | .seq true ds, o, ⟨us, h1, h2, h3⟩ => ⟨us, h1, h2, h3.mono e⟩
  | .dct ks ds, o, ⟨us, h1, h2, h3, h4⟩ => ⟨us, h1, h2, h3, h4.mono e⟩
  | .obj C ns ds, o, ⟨dx, us, h1, h2, h3⟩ => ⟨dx, us, h1, h2, h3.mono e⟩
theorem Top.rep {G H : Hp} (e : Ex G H) {a : Addr} : ∀ {d : D} {o : HO}, Top G d o → H a = some o → Rep H d (.ref a)
  | .seq true ds, o, ⟨us, h1, h2, h3⟩, h => by subst h1; exact .sq (b := true) h h2 (h3.mono e)
  | .dct ks ds, o, ⟨us, h1, h2, h3, h4⟩, h => by subst h1; exact .dc h h2 h3 (h4.mono e)
  | .obj C ns ds, o, ⟨dx, us, h1, h2, h3⟩, h => by subst h1; exact .ob h h2 (h3.mono e)
structure EnvOk (G H : Hp) (σ : St) (ρ : Env) : Prop where
  gh : Ex G H
  len : σ.length = ρ.length
  pu : ∀ (i : Nat) (d : D), ρ[i]? = some (Sl.pu d) → ∃ v, σ[i]? = some (some v) ∧ Rep G d v
  ow : ∀ (i : Nat) (d : D), ρ[i]? = some (Sl.ow d) → ∃ p o, σ[i]? = some (some (V.ref p)) ∧ G p = none ∧ H p = some o ∧ Top G d o
  inj : ∀ (i j : Nat) (ds es : D) (p : Addr), ρ[i]? = some (Sl.ow ds) → ρ[j]? = some (Sl.ow es) → σ[i]? = some (some (V.ref p)) → σ[j]? = some (some (V.ref p)) → i = j
/-- G, H grow to G2, H2; what is new in G2 is new -/
structure Fr (G H G2 H2 : Hp) : Prop where
  g : Ex G G2
  gh : Ex G2 H2
  h : Ex H H2
  nw : ∀ a, H a ≠ none → G a = none → G2 a = none
section
variable {G H G2 H2 G3 H3 : Hp} {σ : St} {ρ : Env}
theorem Fr.refl (e : Ex G H) : Fr G H G H := ⟨Ex.refl _, e, Ex.refl _, fun _ _ h => h⟩
theorem Fr.trans (a : Fr G H G2 H2) (b : Fr G2 H2 G3 H3) : Fr G H G3 H3 :=
  ⟨a.g.trans b.g, b.gh, a.h.trans b.h, fun x h1 h2 => b.nw x (fun z => h1 (a.h.back z)) (a.nw x h1 h2)⟩
theorem Fr.new {p : Addr} {o : HO} (e : Ex G H) (n : H p = none) : Fr G H (upd G p o) (upd H p o) :=
  ⟨Ex.new (e.back n), fun a u z => by
    by_cases h : a = p
    · rw [h, upd_same] at z ⊢; exact z
    · rw [upd_ne h] at z ⊢; exact e _ _ z, Ex.new n, fun a h1 h2 => by
    have : a ≠ p := fun z => h1 (z ▸ n)
    rw [upd_ne this]; exact h2⟩
/-- a thing that nothing keeps -/
theorem Fr.tmp {p : Addr} {o : HO} (e : Ex G H) (n : H p = none) : Fr G H G (upd H p o) := ⟨Ex.refl _, e.trans (Ex.new n), Ex.new n, fun _ _ h => h⟩
theorem Fr.of (e : Ex G H) (e2 : Ex H H2) : Fr G H G H2 := ⟨Ex.refl _, e.trans e2, e2, fun _ _ h => h⟩
theorem Fr.ne {p : Addr} (f : Fr G H G2 H2) (n : H2 p = none) : H p = none := f.h.back n
theorem EnvOk.mono (x : EnvOk G H σ ρ) (f : Fr G H G2 H2) : EnvOk G2 H2 σ ρ :=
  ⟨f.gh, x.len, fun i d e => let ⟨v, h1, h2⟩ := x.pu i d e; ⟨v, h1, h2.mono f.g⟩, fun i ds e => by
    obtain ⟨p, o, h1, h2, h3, h4⟩ := x.ow i ds e
    exact ⟨p, o, h1, f.nw p (fun z => by rw [h3] at z; cases z) h2, f.h _ _ h3, h4.mono f.g⟩, x.inj⟩
end
/-! ### what a reading gives -/
/-- a value that may be kept -/
def PuS (t : TE) (φ : Env → Option D) : Prop := ∀ ρ d, φ ρ = some d → ∀ (G H : Hp) (σ : St), EnvOk G H σ ρ → ∀ Q : VK, (∀ v G2 H2, Fr G H G2 H2 → Rep G2 d v → Q v H2) → t σ H Q
/-- one to be read at once: perhaps an own list -/
def View (G H : Hp) (d : D) (v : V) : Prop := Rep G d v ∨ ∃ a o, v = .ref a ∧ H a = some o ∧ Top G d o
def ViS (t : TE) (φ : Env → Option D) : Prop := ∀ ρ d, φ ρ = some d → ∀ (G H : Hp) (σ : St), EnvOk G H σ ρ → ∀ Q : VK, (∀ v G2 H2, Fr G H G2 H2 → View G2 H2 d v → Q v H2) → t σ H Q
/-- a new list -/
def OwS (t : TE) (φ : Env → Option (List D)) : Prop := ∀ ρ ds, φ ρ = some ds → ∀ (G H : Hp) (σ : St), EnvOk G H σ ρ → ∀ Q : VK,
  (∀ p us G2 H2, Fr G H G2 H2 → H p = none → G2 p = none → H2 p = some (.lst us) → ds.length ≤ Lim → Reps G2 ds us → Q (.ref p) H2) → t σ H Q
def TeS (t : TT) (φ : Env → Option Bool) : Prop := ∀ ρ b, φ ρ = some b → ∀ (G H : Hp) (σ : St), EnvOk G H σ ρ → ∀ Q : Bool → Hp → Prop, (∀ G2 H2, Fr G H G2 H2 → Q b H2) → t σ H Q
def ArS (t : TA) (φ : Env → Option (List D)) : Prop := ∀ ρ ds, φ ρ = some ds → ∀ (G H : Hp) (σ : St), EnvOk G H σ ρ → ∀ Q : List V → Hp → Prop, (∀ vs G2 H2, Fr G H G2 H2 → Reps G2 ds vs → Q vs H2) → t σ H Q
structure PuD (X : Cx) (e : Expr) (t : TE) (φ : Env → Option D) : Prop where
  pe : PE X e t
  ev : PuS t φ
structure ViD (X : Cx) (e : Expr) (t : TE) (φ : Env → Option D) : Prop where
  pe : PE X e t
  ev : ViS t φ
structure OwD (X : Cx) (e : Expr) (t : TE) (φ : Env → Option (List D)) : Prop where
  pe : PE X e t
  ev : OwS t φ
structure TeD (X : Cx) (e : Expr) (t : TT) (φ : Env → Option Bool) : Prop where
  pt : PT X e t
  ev : TeS t φ
structure TwD (X : Cx) (e : Expr) (t : TT) (φ : Env → Option Bool) : Prop where
  pw : PW X e t
  ev : TeS t φ
structure ArD (X : Cx) (es : List Expr) (t : TA) (φ : Env → Option (List D)) : Prop where
  pa : PA X es t
  ev : ArS t φ
theorem View.mono {G H G2 H2 : Hp} {d : D} {v : V} (f : Fr G H G2 H2) (h : View G H d v) : View G2 H2 d v := by
  rcases h with h | ⟨a, o, h1, h2, h3⟩
  · exact .inl (h.mono f.g)
  · exact .inr ⟨a, o, h1, f.h _ _ h2, h3.mono f.g⟩
theorem View.seq {G H : Hp} {b : Bool} {ds : List D} {v : V} (e : Ex G H) (h : View G H (.seq b ds) v) : ∃ a us, v = .ref a ∧ H a = some (mkS b us) ∧ ds.length ≤ Lim ∧ Reps G ds us := by
  rcases h with h | ⟨a, o, h1, h2, h3⟩
  · obtain ⟨a, us, h1, h2, h3, h4⟩ := h.un_sq
    exact ⟨a, us, h1, e _ _ h2, h3, h4⟩
  · cases b with
    | true =>
      obtain ⟨us, rfl, h4, h5⟩ := h3
      exact ⟨a, us, h1, h2, h4, h5⟩
    | false => exact h3.elim
theorem View.dct {G H : Hp} {ks : List Key} {ds : List D} {v : V} (e : Ex G H) (h : View G H (.dct ks ds) v) : ∃ a us, v = .ref a ∧ H a = some (.dK (ks.zip us)) ∧ ks.length = ds.length ∧ ds.length ≤ Lim ∧ Reps G ds us := by
  rcases h with h | ⟨a, o, h1, h2, h3⟩
  · obtain ⟨a, us, h1, h2, h3, h4, h5⟩ := h.un_dct
    exact ⟨a, us, h1, e _ _ h2, h3, h4, h5⟩
  · obtain ⟨us, rfl, h4, h5, h6⟩ := h3
    exact ⟨a, us, h1, h2, h4, h5, h6⟩
theorem View.obj {G H : Hp} {C : Addr} {ns : List Str} {ds : List D} {v : V} (e : Ex G H) (h : View G H (.obj C ns ds) v) : ∃ a dx us, v = .ref a ∧ H a = some (.ins C dx (ns.zip us)) ∧ ns.length = ds.length ∧ Reps G ds us := by
  rcases h with h | ⟨a, o, h1, h2, h3⟩
  · obtain ⟨a, dx, us, h1, h2, h3, h4⟩ := h.un_obj
    exact ⟨a, dx, us, h1, e _ _ h2, h3, h4⟩
  · obtain ⟨dx, us, rfl, h4, h5⟩ := h3
    exact ⟨a, dx, us, h1, h2, h4, h5⟩
theorem View.tup {G H : Hp} {ds : List D} {v : V} (h : View G H (.seq false ds) v) : Rep G (.seq false ds) v := by
  rcases h with h | ⟨a, o, h1, h2, h3⟩
  · exact h
  · exact h3.elim
theorem View.rep {G H : Hp} {d : D} {v : V} (e : Ex G H) (h : View G H d v) : Rep H d v := by
  rcases h with h | ⟨a, o, rfl, h2, h3⟩
  · exact h.mono e
  · exact h3.rep e h2
theorem View.lf {G H : Hp} {x v : V} (h : View G H (.leaf x) v) : v = x ∧ leafy x = true := by
  rcases h with h | ⟨a, o, h1, h2, h3⟩
  · exact h.un_lf
  · exact h3.elim
section
variable {X : Cx} {e : Expr} {t : TE} {φ : Env → Option D} {ψ : Env → Option (List D)}
theorem PuD.vi (h : PuD X e t φ) : ViD X e t φ := ⟨h.pe, fun ρ d e G H σ x Q k => h.ev ρ d e G H σ x Q fun v G2 H2 f r => k v G2 H2 f (.inl r)⟩
theorem OwD.pu (h : OwD X e t ψ) : PuD X e t (fun ρ => (ψ ρ).map (D.seq true)) := ⟨h.pe, fun ρ d e G H σ x Q k => by
  obtain ⟨ds, e1, rfl⟩ := Option.map_eq_some_iff.mp e
  refine h.ev ρ ds e1 G H σ x Q fun p us G2 H2 f n1 n2 h2 hl r => ?_
  have g2 : Ex (upd G2 p (.lst us)) H2 := fun a o z => by
    by_cases q : a = p
    · rw [q, upd_same] at z; rw [q]; cases z; exact h2
    · rw [upd_ne q] at z; exact f.gh _ _ z
  refine k (.ref p) (upd G2 p (.lst us)) H2 ⟨f.g.trans (Ex.new n2), g2, f.h, fun a h1 h2 => ?_⟩ (.sq upd_same hl (r.mono (Ex.new n2)))
  have : a ≠ p := fun z => h1 (z ▸ n1)
  rw [upd_ne this]
  exact f.nw a h1 h2⟩
theorem OwD.vi (h : OwD X e t ψ) : ViD X e t (fun ρ => (ψ ρ).map (D.seq true)) := h.pu.vi
end
end L2.Tr

/-! Trees: rules for expressions. -/
namespace L2.Tr
open PySem PySem.Spec PyProof.Rows
theorem lim_line {n : Nat} (h : n ≤ 2 * Lim) : n ≤ sizeLine := by rw [sizeLine_eq]; have : Lim = 5000 := rfl; omega
/-! ### names, constants -/
def atP (i : Nat) : Env → Option D := fun ρ => match ρ[i]? with
  | some (Sl.pu d) => some d
  | _ => none
def atV (i : Nat) : Env → Option D := fun ρ => match ρ[i]? with
  | some (Sl.pu d) => some d
  | some (.ow d) => some d
  | _ => none
def kD (d : D) : Env → Option D := fun _ => some d
section
variable {X : Cx} {e a b : Expr} {t ta tb : TE} {φ φa φb : Env → Option D}
theorem pu_var {i : Nat} {x : Str} {pos : Pos} (h : PE X (.Name x pos) (tVar i)) : PuD X (.Name x pos) (tVar i) (atP i) := ⟨h, fun ρ d e G H σ x Q k => by
  unfold atP at e
  split at e
  · rename_i d' h1
    cases e
    obtain ⟨v, h2, h3⟩ := x.pu i _ h1
    exact ⟨v, h2, k v G H (.refl x.gh) h3⟩
  · cases e⟩
theorem vi_var {i : Nat} {x : Str} {pos : Pos} (h : PE X (.Name x pos) (tVar i)) : ViD X (.Name x pos) (tVar i) (atV i) := ⟨h, fun ρ d e G H σ x Q k => by
  unfold atV at e
  split at e
  · rename_i d' h1
    cases e
    obtain ⟨v, h2, h3⟩ := x.pu i _ h1
    exact ⟨v, h2, k v G H (.refl x.gh) (.inl h3)⟩
  · rename_i ds h1
    cases e
    obtain ⟨p, o, h2, h3, h4, h5⟩ := x.ow i _ h1
    exact ⟨_, h2, k _ G H (.refl x.gh) (.inr ⟨p, o, rfl, h4, h5⟩)⟩
  · cases e⟩
theorem pu_c {v : V} (h : PE X e (tC v)) (lf : leafy v = true) : PuD X e (tC v) (kD (.leaf v)) := ⟨h, fun ρ d e G H σ x Q k => by
  cases e
  exact k v G H (.refl x.gh) (.lf lf)⟩
/-! ### operators -/
def R2D (r : R2) (op : D → D → Option D) : Prop := ∀ d1 d2 z, op d1 d2 = some z → ∀ (G H : Hp) (v1 v2 : V), Ex G H → View G H d1 v1 → View G H d2 v2 → ∀ Q : VK, (∀ v G2 H2, Fr G H G2 H2 → Rep G2 z v → Q v H2) → r v1 v2 H Q
def R2O (r : R2) (op : D → D → Option (List D)) : Prop := ∀ d1 d2 z, op d1 d2 = some z → ∀ (G H : Hp) (v1 v2 : V), Ex G H → View G H d1 v1 → View G H d2 v2 → ∀ Q : VK,
  (∀ p us G2 H2, Fr G H G2 H2 → H p = none → G2 p = none → H2 p = some (.lst us) → z.length ≤ Lim → Reps G2 z us → Q (.ref p) H2) → r v1 v2 H Q
def bin2 {β : Type} (op : D → D → Option β) (φa φb : Env → Option D) : Env → Option β := fun ρ => (φa ρ).bind fun x => (φb ρ).bind fun y => op x y
theorem bin2_un {β : Type} {op : D → D → Option β} {ρ : Env} {z : β} (h : bin2 op φa φb ρ = some z) : ∃ x y, φa ρ = some x ∧ φb ρ = some y ∧ op x y = some z := by
  unfold bin2 at h
  obtain ⟨x, h1, h2⟩ := Option.bind_eq_some_iff.mp h
  obtain ⟨y, h3, h4⟩ := Option.bind_eq_some_iff.mp h2
  exact ⟨x, y, h1, h3, h4⟩
theorem op_ev {r : R2} {op : D → D → Option D} (hd : R2D r op) (ha : ViS ta φa) (hb : ViS tb φb) : PuS (tOp r ta tb) (bin2 op φa φb) := fun ρ d e G H σ x Q k => by
  obtain ⟨d1, d2, e1, e2, e3⟩ := bin2_un e
  refine ha ρ d1 e1 G H σ x _ fun v1 G1 H1 f1 r1 => ?_
  refine hb ρ d2 e2 G1 H1 σ (x.mono f1) _ fun v2 G2 H2 f2 r2 => ?_
  exact hd d1 d2 d e3 G2 H2 v1 v2 f2.gh (r1.mono f2) r2 Q fun v G3 H3 f3 r3 => k v G3 H3 (f1.trans (f2.trans f3)) r3
theorem op_evO {r : R2} {op : D → D → Option (List D)} (hd : R2O r op) (ha : ViS ta φa) (hb : ViS tb φb) : OwS (tOp r ta tb) (bin2 op φa φb) := fun ρ d e G H σ x Q k => by
  obtain ⟨d1, d2, e1, e2, e3⟩ := bin2_un e
  refine ha ρ d1 e1 G H σ x _ fun v1 G1 H1 f1 r1 => ?_
  refine hb ρ d2 e2 G1 H1 σ (x.mono f1) _ fun v2 G2 H2 f2 r2 => ?_
  exact hd d1 d2 d e3 G2 H2 v1 v2 f2.gh (r1.mono f2) r2 Q fun p us G3 H3 f3 n1 n2 h l r3 => k p us G3 H3 (f1.trans (f2.trans f3)) ((f1.trans f2).ne n1) n2 h l r3
theorem R2D.or {r r' : R2} {op op' : D → D → Option D} (h : R2D r op) (h' : R2D r' op') : R2D (fun x y H Q => r x y H Q ∨ r' x y H Q) (fun x y => (op x y).or (op' x y)) := fun d1 d2 z e G H v1 v2 x r1 r2 Q k => by
  cases e1 : op d1 d2 with
  | some w =>
    have : w = z := by simpa [e1] using e
    subst this
    exact .inl (h d1 d2 w e1 G H v1 v2 x r1 r2 Q k)
  | none =>
    have e' : op' d1 d2 = some z := by simpa [e1] using e
    exact .inr (h' d1 d2 z e' G H v1 v2 x r1 r2 Q k)
theorem pu_op {op : Operator} {r : R2} {o : D → D → Option D} {pos : Pos} (ho : OpR X (binaryOp op) r) (hd : R2D r o) (ha : ViD X a ta φa) (hb : ViD X b tb φb) : PuD X (.BinOp a op b pos) (tOp r ta tb) (bin2 o φa φb) := ⟨pe_op ho ha.pe hb.pe, op_ev hd ha.ev hb.ev⟩
theorem ow_op {op : Operator} {r : R2} {o : D → D → Option (List D)} {pos : Pos} (ho : OpR X (binaryOp op) r) (hd : R2O r o) (ha : ViD X a ta φa) (hb : ViD X b tb φb) : OwD X (.BinOp a op b pos) (tOp r ta tb) (bin2 o φa φb) := ⟨pe_op ho ha.pe hb.pe, op_evO hd ha.ev hb.ev⟩
theorem pu_cmp {op : CmpOp} {r : R2} {o : D → D → Option D} {pos : Pos} (ho : OpR X (compareOp op) r) (hd : R2D r o) (hm : behindInMarks op b = false) (ha : ViD X a ta φa) (hb : ViD X b tb φb) : PuD X (.Compare a [op] [b] pos) (tOp r ta tb) (bin2 o φa φb) := ⟨pe_cmpR ho ha.pe hb.pe hm, op_ev hd ha.ev hb.ev⟩
/-! ### the operators by trees -/
def intI (g : Int → Int → V) : D → D → Option D
  | .leaf (.int i), .leaf (.int j) => some (.leaf (g i j))
  | _, _ => none
theorem r2_I0 {g : Int → Int → V} (lf : ∀ i j, leafy (g i j) = true) : R2D (rI0 g) (intI g) := fun d1 d2 z e G H v1 v2 x r1 r2 Q k => by
  unfold intI at e
  split at e
  · cases e
    obtain ⟨rfl, _⟩ := r1.lf
    obtain ⟨rfl, _⟩ := r2.lf
    exact ⟨_, _, rfl, rfl, k _ G H (.refl x) (.lf (lf _ _))⟩
  · cases e
def strCat : D → D → Option D
  | .leaf (.str i), .leaf (.str j) => if i.length + j.length ≤ 1000 then some (.leaf (.str (i ++ j))) else none
  | _, _ => none
theorem r2_str : R2D (fun x y H Q => ∃ i j, x = .str i ∧ y = .str j ∧ i.length + j.length ≤ sizeLine ∧ Q (.str (i ++ j)) H) strCat := fun d1 d2 z e G H v1 v2 x r1 r2 Q k => by
  unfold strCat at e
  split at e
  · rename_i i j
    split at e
    · rename_i hl
      cases e
      obtain ⟨rfl, _⟩ := r1.lf
      obtain ⟨rfl, _⟩ := r2.lf
      refine ⟨_, _, rfl, rfl, by rw [sizeLine_eq]; omega, k _ G H (.refl x) (.lf ?_)⟩
      show decide ((i ++ j).length ≤ 1000) = true
      rw [PySem.Str.length_append]
      exact decide_eq_true hl
    · cases e
  · cases e
def lstCatO : D → D → Option (List D)
  | .seq true xs, .seq true ys => if xs.length + ys.length ≤ Lim then some (xs ++ ys) else none
  | _, _ => none
def lstCat (a b : D) : Option D := (lstCatO a b).map (D.seq true)
theorem r2_catO : R2O rCat lstCatO := fun d1 d2 z e G H v1 v2 x r1 r2 Q k => by
  unfold lstCatO at e
  split at e
  · rename_i xs ys
    split at e
    · rename_i hl
      cases e
      obtain ⟨a1, us, rfl, h1, l1, q1⟩ := r1.seq x
      obtain ⟨a2, ws, rfl, h2, l2, q2⟩ := r2.seq x
      have hl2 : (us ++ ws).length ≤ Lim := by rw [List.length_append, q1.len, q2.len]; exact hl
      refine ⟨a1, a2, us, ws, rfl, rfl, h1, h2, ?_, fun p np => k p _ G _ (.tmp x np) np (x.back np) upd_same (by rw [List.length_append]; exact hl) (q1.app q2)⟩
      rw [q1.len, q2.len]
      exact lim_line (by omega)
    · cases e
  · cases e
/-- what is a new list may be kept -/
theorem R2O.d {r : R2} {op : D → D → Option (List D)} (h : R2O r op) : R2D r (fun x y => (op x y).map (D.seq true)) := fun d1 d2 z e G H v1 v2 x r1 r2 Q k => by
  obtain ⟨ds, e1, rfl⟩ := Option.map_eq_some_iff.mp e
  refine h d1 d2 ds e1 G H v1 v2 x r1 r2 Q fun p us G2 H2 f n1 n2 h2 hl r => ?_
  have g2 : Ex (upd G2 p (.lst us)) H2 := fun a o z => by
    by_cases q : a = p
    · rw [q, upd_same] at z; rw [q]; cases z; exact h2
    · rw [upd_ne q] at z; exact f.gh _ _ z
  refine k (.ref p) (upd G2 p (.lst us)) H2 ⟨f.g.trans (Ex.new n2), g2, f.h, fun a h1 h2 => ?_⟩ (.sq upd_same hl (r.mono (Ex.new n2)))
  have : a ≠ p := fun z => h1 (z ▸ n1)
  rw [upd_ne this]
  exact f.nw a h1 h2
def tupCat : D → D → Option D
  | .seq false xs, .seq false ys => if xs.length + ys.length ≤ Lim then some (.seq false (xs ++ ys)) else none
  | _, _ => none
theorem r2_catT {K : PySem.W.Frag} : R2D (rCatA K) tupCat := fun d1 d2 z e G H v1 v2 x r1 r2 Q k => by
  unfold tupCat at e
  split at e
  · rename_i xs ys
    split at e
    · rename_i hl
      cases e
      have p1 := r1.tup
      have p2 := r2.tup
      obtain ⟨a1, us, rfl, h1, l1, q1⟩ := p1.un_sq
      obtain ⟨a2, ws, rfl, h2, l2, q2⟩ := p2.un_sq
      have e1 := q1.len
      have e2 := q2.len
      refine ⟨a1, a2, us, ws, rfl, rfl, SqT.of (x _ _ h1), SqT.of (x _ _ h2), lim_line (by omega), fun z => ?_, fun z1 z2 => ?_, fun z1 z2 p np => ?_⟩
      · subst z
        have : xs = [] := List.length_eq_zero_iff.mp e1.symm
        subst this
        exact k _ G H (.refl x) p2
      · subst z2
        have : ys = [] := List.length_eq_zero_iff.mp e2.symm
        subst this
        rw [List.append_nil] at k
        exact k _ G H (.refl x) p1
      · refine k _ _ _ (.new x np) (.sq (b := false) upd_same (by rw [List.length_append]; exact hl) ((q1.app q2).mono (Ex.new (x.back np))))
    · cases e
  · cases e
/-- + -/
def addD (x y : D) : Option D := (intI (fun i j => .int (i + j)) x y).or ((strCat x y).or (((lstCatO x y).map (D.seq true)).or (tupCat x y)))
def addR (K : PySem.W.Frag) : R2 := fun x y H Q => rI0 (fun i j => .int (i + j)) x y H Q ∨ ((∃ i j, x = .str i ∧ y = .str j ∧ i.length + j.length ≤ sizeLine ∧ Q (.str (i ++ j)) H) ∨ (rCat x y H Q ∨ rCatA K x y H Q))
theorem pu_add {pos : Pos} (ha : ViD X a ta φa) (hb : ViD X b tb φb) : PuD X (.BinOp a .Add b pos) (tOp (addR X.K) ta tb) (bin2 addD φa φb) :=
  pu_op (OpR.or op_add (OpR.or op_add_str (OpR.or op_cat op_catA))) (R2D.or (r2_I0 fun _ _ => rfl) (R2D.or r2_str (R2D.or r2_catO.d r2_catT))) ha hb
theorem ow_add {pos : Pos} (ha : ViD X a ta φa) (hb : ViD X b tb φb) : OwD X (.BinOp a .Add b pos) (tOp rCat ta tb) (bin2 lstCatO φa φb) := ow_op op_cat r2_catO ha hb
theorem pu_sub {pos : Pos} (ha : ViD X a ta φa) (hb : ViD X b tb φb) : PuD X (.BinOp a .Sub b pos) (tOp (rI0 fun i j => .int (i - j)) ta tb) (bin2 (intI fun i j => .int (i - j)) φa φb) := pu_op op_sub (r2_I0 fun _ _ => rfl) ha hb
/-- [..] * n -/
def repO : D → D → Option (List D)
  | .seq true xs, .leaf (.int n) => if 0 ≤ n ∧ n ≤ 100 ∧ xs.length ≤ 10 then some (List.replicate n.toNat xs).flatten else none
  | _, _ => none
theorem reps_flat {H : Hp} {xs : List D} {us : List V} (h : Reps H xs us) : ∀ n : Nat, Reps H (List.replicate n xs).flatten (List.replicate n us).flatten
  | 0 => .nil
  | n + 1 => by
    rw [List.replicate_succ, List.replicate_succ, List.flatten_cons, List.flatten_cons]
    exact h.app (reps_flat h n)
theorem flat_len {α : Type} (xs : List α) : ∀ n : Nat, (List.replicate n xs).flatten.length = n * xs.length
  | 0 => by simp
  | n + 1 => by rw [List.replicate_succ, List.flatten_cons, List.length_append, flat_len xs n, Nat.succ_mul]; omega
theorem r2_rep : R2O rRep repO := fun d1 d2 z e G H v1 v2 x r1 r2 Q k => by
  unfold repO at e
  split at e
  · rename_i xs n
    split at e
    · rename_i hl
      cases e
      obtain ⟨a1, us, rfl, h1, l1, q1⟩ := r1.seq x
      obtain ⟨rfl, _⟩ := r2.lf
      obtain ⟨h2, h3, h4⟩ := hl
      have e1 := q1.len
      have b : n.toNat * xs.length ≤ 100 * 10 := Nat.mul_le_mul (by omega) h4
      refine ⟨a1, n, us, rfl, rfl, h1, by omega, by omega, ?_, fun p np => k p _ G _ (.tmp x np) np (x.back np) upd_same ?_ (reps_flat q1 _)⟩
      · rw [e1, Nat.mul_comm]; exact lim_line (by have : Lim = 5000 := rfl; omega)
      · rw [flat_len]; have : Lim = 5000 := rfl; omega
    · cases e
  · cases e
theorem ow_rep {pos : Pos} (ha : ViD X a ta φa) (hb : ViD X b tb φb) : OwD X (.BinOp a .Mult b pos) (tOp rRep ta tb) (bin2 repO φa φb) := ow_op op_rep r2_rep ha hb
/-! ### comparisons -/
def bD (b : Bool) : D := .leaf (.bl b)
def scD (neg : Bool) : D → D → Option D
  | .leaf x, .leaf y => if scal x y = true then some (bD (xor neg (decide (x = y)))) else none
  | _, _ => none
theorem r2_eqS : R2D rEq (scD false) := fun d1 d2 z e G H v1 v2 x r1 r2 Q k => by
  unfold scD at e
  split at e
  · split at e
    · rename_i hs
      cases e
      obtain ⟨rfl, _⟩ := r1.lf
      obtain ⟨rfl, _⟩ := r2.lf
      exact ⟨hs, k _ G H (.refl x) (by rw [Bool.false_xor]; exact .lf rfl)⟩
    · cases e
  · cases e
theorem r2_neS : R2D rNe (scD true) := fun d1 d2 z e G H v1 v2 x r1 r2 Q k => by
  unfold scD at e
  split at e
  · split at e
    · rename_i hs
      cases e
      obtain ⟨rfl, _⟩ := r1.lf
      obtain ⟨rfl, _⟩ := r2.lf
      exact ⟨hs, k _ G H (.refl x) (by rw [Bool.true_xor]; exact .lf rfl)⟩
    · cases e
  · cases e
/-- is None -/
def isN (neg : Bool) : D → D → Option D
  | .leaf x, .leaf .non => some (bD (xor neg (decide (x = .non))))
  | .seq _ _, .leaf .non => some (bD neg)
  | .dct _ _, .leaf .non => some (bD neg)
  | .obj _ _ _, .leaf .non => some (bD neg)
  | _, _ => none
theorem isn_ref {G H : Hp} {d : D} {v : V} (h : View G H d v) (n : ∀ x, d ≠ .leaf x) : ∃ a, v = .ref a := by
  rcases h with h | ⟨a, o, h, _⟩
  · cases d with
    | leaf x => exact absurd rfl (n x)
    | seq b ds => obtain ⟨a, _, h, _⟩ := h.un_sq; exact ⟨a, h⟩
    | dct ks ds => obtain ⟨a, _, h, _⟩ := h.un_dct; exact ⟨a, h⟩
    | obj C ns ds => obtain ⟨a, _, _, h, _⟩ := h.un_obj; exact ⟨a, h⟩
  · exact ⟨a, h⟩
theorem isn_any {neg : Bool} {d1 d2 z : D} (e : isN neg d1 d2 = some z) {G H : Hp} {v1 v2 : V} (r1 : View G H d1 v1) (r2 : View G H d2 v2) : v2 = .non ∧ z = bD (xor neg (decide (v1 = .non))) := by
  unfold isN at e
  split at e
  · cases e
    obtain ⟨rfl, _⟩ := r1.lf
    exact ⟨r2.lf.1, rfl⟩
  all_goals first
    | (cases e
       obtain ⟨a, rfl⟩ := isn_ref r1 (fun x z => by cases z)
       refine ⟨r2.lf.1, ?_⟩
       rw [decide_eq_false (fun z => by cases z), Bool.xor_false])
    | cases e
theorem r2_isN : R2D (fun x y H Q => y = .non ∧ Q (.bl (decide (x = .non))) H) (isN false) := fun d1 d2 z e G H v1 v2 x r1 r2 Q k => by
  obtain ⟨h1, rfl⟩ := isn_any e r1 r2
  exact ⟨h1, k _ G H (.refl x) (by rw [Bool.false_xor]; exact .lf rfl)⟩
theorem r2_notN : R2D (fun x y H Q => y = .non ∧ Q (.bl (!decide (x = .non))) H) (isN true) := fun d1 d2 z e G H v1 v2 x r1 r2 Q k => by
  obtain ⟨h1, rfl⟩ := isn_any e r1 r2
  exact ⟨h1, k _ G H (.refl x) (by rw [Bool.true_xor]; exact .lf rfl)⟩
/-- in a list, a tuple of leaves -/
def leaves : List D → Option (List V)
  | [] => some []
  | .leaf x :: r => (leaves r).map (x :: ·)
  | _ :: _ => none
theorem leaves_map : ∀ (vs : List V), leaves (vs.map D.leaf) = some vs
  | [] => rfl
  | v :: r => by rw [List.map_cons, leaves, leaves_map r]; rfl
theorem leaves_un : ∀ {ds : List D} {vs : List V}, leaves ds = some vs → ds = vs.map D.leaf
  | [], vs, h => by cases h; rfl
  | .leaf x :: r, vs, h => by
    rw [leaves] at h
    obtain ⟨ws, h1, rfl⟩ := Option.map_eq_some_iff.mp h
    rw [leaves_un h1]; rfl
  | .seq _ _ :: _, vs, h => by simp [leaves] at h
  | .dct _ _ :: _, vs, h => by simp [leaves] at h
  | .obj _ _ _ :: _, vs, h => by simp [leaves] at h
theorem leafy_flat : ∀ {v : V}, leafy v = true → flatV v = true
  | .non, _ => rfl
  | .bl _, _ => rfl
  | .int _, _ => rfl
  | .str _, _ => rfl
theorem reps_leafy {H : Hp} : ∀ {vs us : List V}, Reps H (vs.map D.leaf) us → us = vs ∧ ∀ v ∈ vs, leafy v = true
  | [], us, h => ⟨h.un0, fun _ z => by cases z⟩
  | v :: r, us, h => by
    obtain ⟨u, s, rfl, q, t⟩ := h.un
    obtain ⟨e, k⟩ := reps_leafy t
    rw [e, q.un_lf.1]
    exact ⟨rfl, fun w hw => (List.mem_cons.mp hw).elim (fun z => z ▸ q.un_lf.2) (k w)⟩
def inD (neg : Bool) : D → D → Option D
  | .leaf x, .seq _ ds => (leaves ds).map fun vs => bD (xor neg (inV x vs))
  | _, _ => none
theorem r2_in {K : PySem.W.Frag} {neg : Bool} : R2D (rIn K neg) (inD neg) := fun d1 d2 z e G H v1 v2 x r1 r2 Q k => by
  unfold inD at e
  split at e
  · rename_i w b ds
    obtain ⟨vs, h1, rfl⟩ := Option.map_eq_some_iff.mp e
    obtain rfl := leaves_un h1
    obtain ⟨rfl, lf⟩ := r1.lf
    obtain ⟨a2, ws, rfl, h2, l2, q2⟩ := r2.seq x
    obtain ⟨rfl, lfs⟩ := reps_leafy q2
    refine ⟨a2, ws, rfl, ?_, leafy_flat lf, List.all_eq_true.mpr fun v hv => leafy_flat (lfs v hv), k _ G H (.refl x) ?_⟩
    · cases b with
      | true => exact .inl (SqL.of h2)
      | false => exact .inr (SqT.of h2)
    · cases neg with
      | true => rw [Bool.true_xor]; exact .lf rfl
      | false => rw [Bool.false_xor]; exact .lf rfl
  · cases e
def inSD : D → D → Option D
  | .leaf (.str u), .leaf (.str z) => if u.cps.size = 1 then some (bD (decide (u.cps.getD 0 0 ∈ z.cps.toList))) else none
  | _, _ => none
theorem r2_inS : R2D rInS inSD := fun d1 d2 z e G H v1 v2 x r1 r2 Q k => by
  unfold inSD at e
  split at e
  · split at e
    · rename_i u z' hs
      cases e
      obtain ⟨rfl, _⟩ := r1.lf
      obtain ⟨rfl, _⟩ := r2.lf
      refine ⟨u.cps.getD 0 0, z', ?_, rfl, k _ G H (.refl x) (.lf rfl)⟩
      obtain ⟨l⟩ := u
      obtain ⟨l⟩ := l
      match l, hs with
      | [c], _ => rfl
    · cases e
  · cases e
/-! ### subscripts -/
def ixD : D → D → Option D
  | .seq _ ds, .leaf (.int i) => atI ds i
  | _, _ => none
theorem atI_rep {H : Hp} {ds : List D} {us : List V} {i : Int} {d : D} (h : Reps H ds us) (e : atI ds i = some d) : ∃ u, atI us i = some u ∧ Rep H d u := by
  unfold atI at e ⊢
  rw [h.len]
  obtain ⟨j, h1, h2⟩ := Option.bind_eq_some_iff.mp e
  obtain ⟨u, h3, h4⟩ := h.get h2
  exact ⟨u, by rw [h1]; exact h3, h4⟩
theorem r2_ix {K : PySem.W.Frag} : R2D (rIx K) ixD := fun d1 d2 z e G H v1 v2 x r1 r2 Q k => by
  unfold ixD at e
  split at e
  · rename_i b ds i
    obtain ⟨a1, us, rfl, h1, l1, q1⟩ := r1.seq x
    obtain ⟨rfl, _⟩ := r2.lf
    obtain ⟨u, h2, h3⟩ := atI_rep q1 e
    have kk := k u G H (.refl x) h3
    cases b with
    | true => exact .inl ⟨a1, us, i, u, rfl, rfl, SqL.of h1, h2, kk⟩
    | false => exact .inr (.inl ⟨a1, us, i, u, rfl, rfl, SqT.of h1, h2, kk⟩)
  · cases e
theorem pu_ix {pos : Pos} (ha : ViD X a ta φa) (hb : ViD X b tb φb) (hs : PlainIx b) : PuD X (.Subscript a b pos) (tOp (rIx X.K) ta tb) (bin2 ixD φa φb) := ⟨pe_ix ix_seq ha.pe hb.pe hs, op_ev r2_ix ha.ev hb.ev⟩
/-- d[k] -/
def getK : List Key → List D → Key → Option D
  | k :: ks, d :: ds, x => if k = x then some d else getK ks ds x
  | _, _, _ => none
theorem getK_rep {H : Hp} {x : Key} {d : D} : ∀ {ks : List Key} {ds : List D} {us : List V}, Reps H ds us → getK ks ds x = some d → ∃ u, valV (ks.zip us) x = some u ∧ Rep H d u
  | [], ds, us, h, e => by simp [getK] at e
  | k :: ks, [], us, h, e => by simp [getK] at e
  | k :: ks, d0 :: ds, us, h, e => by
    obtain ⟨u, r, rfl, q, t⟩ := h.un
    rw [getK] at e
    rw [List.zip_cons_cons]
    split at e
    · rename_i hk
      cases e
      exact ⟨u, valV_pos hk, q⟩
    · rename_i hk
      rw [valV_neg hk]
      exact getK_rep t e
def keyD : D → Option Key
  | .leaf (.int i) => some (.inl i)
  | .leaf (.str x) => some (.inr x)
  | _ => none
def dgD : D → D → Option D
  | .dct ks ds, y => (keyD y).bind (getK ks ds)
  | _, _ => none
theorem keyD_kV {d : D} {k : Key} {G H : Hp} {v : V} (h : keyD d = some k) (r : View G H d v) : v = kV k := by
  cases d with
  | leaf x =>
    obtain ⟨rfl, _⟩ := r.lf
    cases v with
    | int i => cases h; rfl
    | str i => cases h; rfl
    | _ => cases h
  | _ => cases h
theorem pu_dg {pos : Pos} (hu : X.A.units + 1 < cLine) (ha : ViD X a ta φa) (hb : ViD X b tb φb) (hs : NoSl b) : PuD X (.Subscript a b pos) (tDGet ta tb) (bin2 dgD φa φb) := ⟨pe_dget hu ha.pe hb.pe hs, fun ρ d e G H σ x Q k => by
  obtain ⟨d1, d2, e1, e2, e3⟩ := bin2_un e
  refine ha.ev ρ d1 e1 G H σ x _ fun v1 G1 H1 f1 r1 => ?_
  refine hb.ev ρ d2 e2 G1 H1 σ (x.mono f1) _ fun v2 G2 H2 f2 r2 => ?_
  unfold dgD at e3
  split at e3
  · rename_i ks ds y
    obtain ⟨kk, h1, h2⟩ := Option.bind_eq_some_iff.mp e3
    obtain ⟨p, us, rfl, hp, _, _, rs⟩ := (r1.mono f2).dct f2.gh
    obtain rfl := keyD_kV h1 r2
    obtain ⟨u, h3, h4⟩ := getK_rep rs h2
    refine ⟨p, u, rfl, ?_, k u G2 H2 (f1.trans f2) h4⟩
    rw [← h3]
    exact DGet.k hp
  · cases e3⟩
end
end L2.Tr

/-! Trees: calls, tests, slices, displays. -/
namespace L2.Tr
open PySem PySem.Spec PyProof.Rows
section
variable {X : Cx} {e a b c : Expr} {es : List Expr} {t ta tb tc : TE} {φ φa φb φc : Env → Option D} {ψ ψa ψb : Env → Option (List D)}
/-! ### arguments -/
def Views (G H : Hp) : List D → List V → Prop
  | [], us => us = []
  | d :: ds, us => ∃ u r, us = u :: r ∧ View G H d u ∧ Views G H ds r
theorem Views.mono {G H G2 H2 : Hp} (f : Fr G H G2 H2) : ∀ {ds : List D} {us : List V}, Views G H ds us → Views G2 H2 ds us
  | [], _, h => h
  | d :: ds, us, ⟨u, r, h1, h2, h3⟩ => ⟨u, r, h1, h2.mono f, h3.mono f⟩
def AvS (t : TA) (φ : Env → Option (List D)) : Prop := ∀ ρ ds, φ ρ = some ds → ∀ (G H : Hp) (σ : St), EnvOk G H σ ρ → ∀ Q : List V → Hp → Prop, (∀ vs G2 H2, Fr G H G2 H2 → Views G2 H2 ds vs → Q vs H2) → t σ H Q
structure AvD (X : Cx) (es : List Expr) (t : TA) (φ : Env → Option (List D)) : Prop where
  pa : PA X es t
  ev : AvS t φ
def nilD : Env → Option (List D) := fun _ => some []
def consD (φ : Env → Option D) (ψ : Env → Option (List D)) : Env → Option (List D) := fun ρ => (φ ρ).bind fun x => (ψ ρ).map (x :: ·)
theorem consD_un {ρ : Env} {z : List D} (h : consD φ ψ ρ = some z) : ∃ x xs, φ ρ = some x ∧ ψ ρ = some xs ∧ z = x :: xs := by
  unfold consD at h
  obtain ⟨x, h1, h2⟩ := Option.bind_eq_some_iff.mp h
  obtain ⟨xs, h3, h4⟩ := Option.map_eq_some_iff.mp h2
  exact ⟨x, xs, h1, h3, h4.symm⟩
theorem av_nil : AvD X [] tNil nilD := ⟨pa_nil, fun ρ d e G H σ x Q k => by cases e; exact k [] G H (.refl x.gh) rfl⟩
theorem av_cons {tr : TA} (h : ViD X e t φ) (r : AvD X es tr ψ) (hs : starEach (e :: es) X.env = (false, eval e X.env) :: starEach es X.env := by rfl) : AvD X (e :: es) (tCons t tr) (consD φ ψ) := ⟨pa_cons h.pe r.pa hs, fun ρ d e G H σ x Q k => by
  obtain ⟨y, ys, e1, e2, rfl⟩ := consD_un e
  refine h.ev ρ y e1 G H σ x _ fun v G1 H1 f1 r1 => ?_
  exact r.ev ρ ys e2 G1 H1 σ (x.mono f1) _ fun vs G2 H2 f2 r2 => k _ G2 H2 (f1.trans f2) ⟨v, vs, rfl, r1.mono f2, r2⟩⟩
theorem ar_nil : ArD X [] tNil nilD := ⟨pa_nil, fun ρ d e G H σ x Q k => by cases e; exact k [] G H (.refl x.gh) .nil⟩
theorem ar_cons {tr : TA} (h : PuD X e t φ) (r : ArD X es tr ψ) (hs : starEach (e :: es) X.env = (false, eval e X.env) :: starEach es X.env := by rfl) : ArD X (e :: es) (tCons t tr) (consD φ ψ) := ⟨pa_cons h.pe r.pa hs, fun ρ d e G H σ x Q k => by
  obtain ⟨y, ys, e1, e2, rfl⟩ := consD_un e
  refine h.ev ρ y e1 G H σ x _ fun v G1 H1 f1 r1 => ?_
  exact r.ev ρ ys e2 G1 H1 σ (x.mono f1) _ fun vs G2 H2 f2 r2 => k _ G2 H2 (f1.trans f2) (.cons (r1.mono f2.g) r2)⟩
/-! ### calls of what is built in -/
def R1D (r : List V → Hp → VK → Prop) (op : List D → Option D) : Prop := ∀ ds z, op ds = some z → ∀ (G H : Hp) (vs : List V), Ex G H → Views G H ds vs → ∀ Q : VK, (∀ v G2 H2, Fr G H G2 H2 → Rep G2 z v → Q v H2) → r vs H Q
def R1O (r : List V → Hp → VK → Prop) (op : List D → Option (List D)) : Prop := ∀ ds z, op ds = some z → ∀ (G H : Hp) (vs : List V), Ex G H → Views G H ds vs → ∀ Q : VK,
  (∀ p us G2 H2, Fr G H G2 H2 → H p = none → G2 p = none → H2 p = some (.lst us) → z.length ≤ Lim → Reps G2 z us → Q (.ref p) H2) → r vs H Q
def app1 {β : Type} (op : List D → Option β) (ψ : Env → Option (List D)) : Env → Option β := fun ρ => (ψ ρ).bind op
theorem cb_ev {r : List V → Hp → VK → Prop} {op : List D → Option D} {tr : TA} (hd : R1D r op) (h : AvS tr ψ) : PuS (tCB r tr) (app1 op ψ) := fun ρ d e G H σ x Q k => by
  obtain ⟨ds, e1, e2⟩ := Option.bind_eq_some_iff.mp e
  exact h ρ ds e1 G H σ x _ fun vs G1 H1 f1 r1 => hd ds d e2 G1 H1 vs f1.gh r1 Q fun v G2 H2 f2 r2 => k v G2 H2 (f1.trans f2) r2
theorem cb_evO {r : List V → Hp → VK → Prop} {op : List D → Option (List D)} {tr : TA} (hd : R1O r op) (h : AvS tr ψ) : OwS (tCB r tr) (app1 op ψ) := fun ρ d e G H σ x Q k => by
  obtain ⟨ds, e1, e2⟩ := Option.bind_eq_some_iff.mp e
  exact h ρ ds e1 G H σ x _ fun vs G1 H1 f1 r1 => hd ds d e2 G1 H1 vs f1.gh r1 Q fun p us G2 H2 f2 n1 n2 h2 l r2 => k p us G2 H2 (f1.trans f2) (f1.ne n1) n2 h2 l r2
theorem R1D.or {r r' : List V → Hp → VK → Prop} {op op' : List D → Option D} (h : R1D r op) (h' : R1D r' op') : R1D (fun x H Q => r x H Q ∨ r' x H Q) (fun x => (op x).or (op' x)) := fun ds z e G H vs x r1 Q k => by
  cases e1 : op ds with
  | some w =>
    have : w = z := by simpa [e1] using e
    subst this
    exact .inl (h ds w e1 G H vs x r1 Q k)
  | none =>
    have e' : op' ds = some z := by simpa [e1] using e
    exact .inr (h' ds z e' G H vs x r1 Q k)
theorem R1O.or {r r' : List V → Hp → VK → Prop} {op op' : List D → Option (List D)} (h : R1O r op) (h' : R1O r' op') : R1O (fun x H Q => r x H Q ∨ r' x H Q) (fun x => (op x).or (op' x)) := fun ds z e G H vs x r1 Q k => by
  cases e1 : op ds with
  | some w =>
    have : w = z := by simpa [e1] using e
    subst this
    exact .inl (h ds w e1 G H vs x r1 Q k)
  | none =>
    have e' : op' ds = some z := by simpa [e1] using e
    exact .inr (h' ds z e' G H vs x r1 Q k)
section
variable {x id T : _} {p pos : Pos} {tr : TA} {r : List V → Hp → VK → Prop} {op : List D → Option D} {opO : List D → Option (List D)}
theorem pu_cb (hc : CallR X (.builtin id) r) (hd : R1D r op) (hg : Gl X x) (hm : X.mg x = none) (hv : bootBuiltins x = some (.builtin id)) (ha : AvD X (e :: es) tr ψ) (hn : x ≠ "__name__" := by decide) (hdb : (x == ("__debug__" : Str)) = false := by decide)
    (he : starEach (e :: es) X.env = (false, eval e X.env) :: starEach es X.env := by rfl) (hpl : (backTo pos (starEach es X.env)).any (·.1) = false := by rfl) : PuD X (.Call (.Name x p) (e :: es) [] pos) (tCB r tr) (app1 op ψ) := ⟨pe_callB hc hg hm hv ha.pa hn hdb he hpl, cb_ev hd ha.ev⟩
theorem pu_cty (hc : CallR X (.type T) r) (hd : R1D r op) (hg : Gl X x) (hm : X.mg x = none) (hv : bootBuiltins x = some (.type T)) (ha : AvD X (e :: es) tr ψ) (hn : x ≠ "__name__" := by decide) (hdb : (x == ("__debug__" : Str)) = false := by decide)
    (he : starEach (e :: es) X.env = (false, eval e X.env) :: starEach es X.env := by rfl) (hpl : (backTo pos (starEach es X.env)).any (·.1) = false := by rfl) : PuD X (.Call (.Name x p) (e :: es) [] pos) (tCB r tr) (app1 op ψ) := ⟨pe_callTy hc hg hm hv ha.pa hn hdb he hpl, cb_ev hd ha.ev⟩
theorem ow_cty (hc : CallR X (.type T) r) (hd : R1O r opO) (hg : Gl X x) (hm : X.mg x = none) (hv : bootBuiltins x = some (.type T)) (ha : AvD X (e :: es) tr ψ) (hn : x ≠ "__name__" := by decide) (hdb : (x == ("__debug__" : Str)) = false := by decide)
    (he : starEach (e :: es) X.env = (false, eval e X.env) :: starEach es X.env := by rfl) (hpl : (backTo pos (starEach es X.env)).any (·.1) = false := by rfl) : OwD X (.Call (.Name x p) (e :: es) [] pos) (tCB r tr) (app1 opO ψ) := ⟨pe_callTy hc hg hm hv ha.pa hn hdb he hpl, cb_evO hd ha.ev⟩
end
theorem views1 {G H : Hp} {d : D} {vs : List V} (h : Views G H [d] vs) : ∃ v, vs = [v] ∧ View G H d v := by
  obtain ⟨u, r, rfl, h1, rfl⟩ := h
  exact ⟨u, rfl, h1⟩
/-- len -/
def lenD : List D → Option D
  | [.leaf (.str x)] => some (.leaf (.int x.length))
  | [.seq _ ds] => some (.leaf (.int ds.length))
  | _ => none
theorem r1_len {K : PySem.W.Frag} : R1D (fun xs H Q => ∃ x n, xs = [x] ∧ LenV K x H n ∧ Q (.int n) H) lenD := fun ds z e G H vs x r1 Q k => by
  unfold lenD at e
  split at e
  · rename_i s
    cases e
    obtain ⟨v, rfl, r⟩ := views1 r1
    obtain ⟨rfl, lf⟩ := r.lf
    have hl : s.length ≤ 1000 := of_decide_eq_true lf
    exact ⟨_, s.length, rfl, ⟨by rw [sizeLine_eq]; omega, rfl⟩, k _ G H (.refl x) (.lf rfl)⟩
  · rename_i b ds
    cases e
    obtain ⟨v, rfl, r⟩ := views1 r1
    obtain ⟨a, us, rfl, h1, l1, q⟩ := r.seq x
    refine ⟨_, us.length, rfl, ?_, by rw [q.len]; exact k _ G H (.refl x) (.lf rfl)⟩
    cases b with
    | true => exact .inl ⟨us, SqL.of h1, rfl⟩
    | false => exact .inr ⟨us, SqT.of h1, rfl⟩
  · cases e
def lenK : List D → Option D
  | [.dct _ ds] => some (.leaf (.int ds.length))
  | _ => none
theorem r1_lenK : R1D (fun xs H Q => ∃ a kvs, xs = [V.ref a] ∧ H a = some (.dK kvs) ∧ Q (.int kvs.length) H) lenK := fun ds z e G H vs x r1 Q k => by
  unfold lenK at e
  split at e
  · rename_i ks ds
    cases e
    obtain ⟨v, rfl, r⟩ := views1 r1
    obtain ⟨a, us, rfl, h1, l0, l1, q⟩ := r.dct x
    refine ⟨a, _, rfl, h1, ?_⟩
    have : (ks.zip us).length = ds.length := by rw [List.length_zip, q.len, l0, Nat.min_self]
    rw [this]
    exact k _ G H (.refl x) (.lf rfl)
  · cases e
/-- list(..) -/
def lstO : List D → Option (List D)
  | [.seq _ ds] => some ds
  | _ => none
theorem r1_lst {K : PySem.W.Frag} : R1O (fun xs H Q => ∃ p ys, xs = [.ref p] ∧ (SqL K H p ys ∨ SqT K H p ys) ∧ ∀ l, H l = none → Q (.ref l) (upd H l (.lst ys))) lstO := fun ds z e G H vs x r1 Q k => by
  unfold lstO at e
  split at e
  · rename_i b ds
    cases e
    obtain ⟨v, rfl, r⟩ := views1 r1
    obtain ⟨a, us, rfl, h1, l1, q⟩ := r.seq x
    refine ⟨a, us, rfl, ?_, fun p np => k p us G _ (.tmp x np) np (x.back np) upd_same l1 q⟩
    cases b with
    | true => exact .inl (SqL.of h1)
    | false => exact .inr (SqT.of h1)
  · cases e
def keyV : Key → D
  | .inl i => .leaf (.int i)
  | .inr x => .leaf (.str x)
def okKey : Key → Bool
  | .inl _ => true
  | .inr x => decide (x.length ≤ 1000)
/-- list(a dict) -/
def lstK : List D → Option (List D)
  | [.dct ks _] => if ks.all okKey = true then some (ks.map keyV) else none
  | _ => none
theorem reps_keys {H : Hp} : ∀ {ks : List Key}, ks.all okKey = true → Reps H (ks.map keyV) (ks.map kV)
  | [], _ => .nil
  | k :: ks, h => by
    rw [List.all_cons, Bool.and_eq_true] at h
    refine .cons ?_ (reps_keys h.2)
    cases k with
    | inl i => exact .lf rfl
    | inr x => exact .lf h.1
theorem zip_fst {α β : Type} : ∀ {as : List α} {bs : List β}, as.length = bs.length → (as.zip bs).map (·.1) = as
  | [], _, _ => rfl
  | a :: as, [], h => by simp at h
  | a :: as, b :: bs, h => by rw [List.zip_cons_cons, List.map_cons, zip_fst (by simpa using h)]
theorem r1_lstK : R1O rListD lstK := fun ds z e G H vs x r1 Q k => by
  unfold lstK at e
  split at e
  · rename_i ks ds
    split at e
    · rename_i hk
      cases e
      obtain ⟨v, rfl, r⟩ := views1 r1
      obtain ⟨a, us, rfl, h1, l0, l1, q⟩ := r.dct x
      have e1 : ((ks.zip us).map fun kv => kV kv.1) = ks.map kV := by
        rw [show ((ks.zip us).map fun kv => kV kv.1) = ((ks.zip us).map (·.1)).map kV by rw [List.map_map]; rfl, zip_fst (by rw [q.len, l0])]
      refine ⟨a, _, rfl, h1, fun p np => ?_⟩
      rw [e1]
      exact k p _ G _ (.tmp x np) np (x.back np) upd_same (by rw [List.length_map, l0]; exact l1) (reps_keys hk)
    · cases e
  · cases e
/-- tuple(..) -/
def tupD : List D → Option D
  | [.seq _ ds] => some (.seq false ds)
  | _ => none
theorem r1_tup {K : PySem.W.Frag} : R1D (fun xs H Q => ∃ p ys, xs = [.ref p] ∧ ((SqL K H p ys ∧ ∀ l, H l = none → Q (.ref l) (upd H l (.tup ys))) ∨ (SqT K H p ys ∧ Q (.ref p) H))) tupD := fun ds z e G H vs x r1 Q k => by
  unfold tupD at e
  split at e
  · rename_i b ds
    cases e
    obtain ⟨v, rfl, r⟩ := views1 r1
    cases b with
    | true =>
      obtain ⟨a, us, rfl, h1, l1, q⟩ := r.seq x
      exact ⟨a, us, rfl, .inl ⟨SqL.of h1, fun p np => k _ _ _ (.new x np) (.sq (b := false) upd_same l1 (q.mono (Ex.new (x.back np))))⟩⟩
    | false =>
      have r2 := r.tup
      obtain ⟨a, us, rfl, h1, l1, q⟩ := r2.un_sq
      exact ⟨a, us, rfl, .inr ⟨SqT.of (x _ _ h1), k _ G H (.refl x) r2⟩⟩
  · cases e
/-- any, all -/
def boolsOf : List D → Option (List Bool)
  | [] => some []
  | .leaf (.bl b) :: r => (boolsOf r).map (b :: ·)
  | _ :: _ => none
theorem bools_un : ∀ {ds : List D} {bs : List Bool}, boolsOf ds = some bs → ds = (bs.map V.bl).map D.leaf
  | [], bs, h => by cases h; rfl
  | d :: r, bs, h => by
    unfold boolsOf at h
    split at h
    · rename_i hh; cases hh
    · rename_i b r' hh
      obtain ⟨ws, h1, rfl⟩ := Option.map_eq_some_iff.mp h
      injection hh with e1 e2
      subst e1 e2
      rw [bools_un h1]; rfl
    · cases h
theorem bools_map : ∀ (bs : List Bool), boolsOf (bs.map bD) = some bs
  | [] => rfl
  | b :: r => by rw [List.map_cons]; show boolsOf (.leaf (.bl b) :: _) = _; rw [boolsOf, bools_map r]; rfl
def anyD : List D → Option D
  | [.seq true ds] => (boolsOf ds).map fun bs => bD (bs.any id)
  | _ => none
def allD : List D → Option D
  | [.seq true ds] => (boolsOf ds).map fun bs => bD (bs.all id)
  | _ => none
theorem r1_any {K : PySem.W.Frag} : R1D (rAny K) anyD := fun ds z e G H vs x r1 Q k => by
  unfold anyD at e
  split at e
  · rename_i ds
    obtain ⟨bs, h1, rfl⟩ := Option.map_eq_some_iff.mp e
    obtain rfl := bools_un h1
    obtain ⟨v, rfl, r⟩ := views1 r1
    obtain ⟨a, us, rfl, h1, l1, q⟩ := r.seq x
    obtain ⟨rfl, _⟩ := reps_leafy q
    exact ⟨a, bs, rfl, SqL.of h1, k _ G H (.refl x) (.lf rfl)⟩
  · cases e
theorem r1_all {K : PySem.W.Frag} : R1D (rAll K) allD := fun ds z e G H vs x r1 Q k => by
  unfold allD at e
  split at e
  · rename_i ds
    obtain ⟨bs, h1, rfl⟩ := Option.map_eq_some_iff.mp e
    obtain rfl := bools_un h1
    obtain ⟨v, rfl, r⟩ := views1 r1
    obtain ⟨a, us, rfl, h1, l1, q⟩ := r.seq x
    obtain ⟨rfl, _⟩ := reps_leafy q
    exact ⟨a, bs, rfl, SqL.of h1, k _ G H (.refl x) (.lf rfl)⟩
  · cases e
/-! ### isinstance -/
/-- what isinstance(.., u) tells -/
def IsT (K : PySem.W.Frag) (u : Value) (p : D → Option Bool) : Prop := ∀ d b, p d = some b → ∀ (H : Hp) (v : V), Rep H d v → ∃ t, TyX K H v t ∧ PySem.W.kitOne K t u = some b
def tyName : D → Option String
  | .leaf .non => some "NoneType"
  | .leaf (.bl _) => some "bool"
  | .leaf (.int _) => some "int"
  | .leaf (.str _) => some "str"
  | .seq true _ => some "list"
  | .seq false _ => some "tuple"
  | .dct _ _ => some "dict"
  | _ => none
theorem ty_of {K : PySem.W.Frag} {d : D} {s : String} (h : tyName d = some s) {H : Hp} {v : V} (r : Rep H d v) : TyX K H v (.type s) := by
  unfold tyName at h
  split at h <;> cases h
  · obtain ⟨rfl, _⟩ := r.un_lf; exact .base .non
  · obtain ⟨rfl, _⟩ := r.un_lf; exact .base (.bl _)
  · obtain ⟨rfl, _⟩ := r.un_lf; exact .base (.int _)
  · obtain ⟨rfl, _⟩ := r.un_lf; exact .base (.str _)
  · obtain ⟨a, us, rfl, h1, _⟩ := r.un_sq; exact .base (.lst h1)
  · obtain ⟨a, us, rfl, h1, _⟩ := r.un_sq; exact .base (.tup h1)
  · obtain ⟨a, us, rfl, h1, _⟩ := r.un_dct; exact .base (.dK h1)
theorem isT_of {K : PySem.W.Frag} {T : String} {p : D → Option Bool} (h : ∀ d b, p d = some b → ∃ s, tyName d = some s ∧ kitB s T = some b) : IsT K (.type T) p := fun d b e H v r => by
  obtain ⟨s, h1, h2⟩ := h d b e
  exact ⟨_, ty_of h1 r, kit_ty h2⟩
def isStr : D → Option Bool
  | .leaf (.str _) => some true
  | .obj _ _ _ => none
  | .leaf (.byt _) => none
  | .leaf (.flt _) => none
  | .leaf (.ref _) => none
  | .leaf (.ty _) => none
  | _ => some false
def isInt : D → Option Bool
  | .leaf (.int _) => some true
  | .leaf (.bl _) => some true
  | .obj _ _ _ => none
  | .leaf (.byt _) => none
  | .leaf (.flt _) => none
  | .leaf (.ref _) => none
  | .leaf (.ty _) => none
  | _ => some false
def isBool : D → Option Bool
  | .leaf (.bl _) => some true
  | .obj _ _ _ => none
  | .leaf (.byt _) => none
  | .leaf (.flt _) => none
  | .leaf (.ref _) => none
  | .leaf (.ty _) => none
  | _ => some false
def isLst : D → Option Bool
  | .seq b _ => some b
  | .obj _ _ _ => none
  | .leaf (.byt _) => none
  | .leaf (.flt _) => none
  | .leaf (.ref _) => none
  | .leaf (.ty _) => none
  | _ => some false
def isTup : D → Option Bool
  | .seq b _ => some (!b)
  | .obj _ _ _ => none
  | .leaf (.byt _) => none
  | .leaf (.flt _) => none
  | .leaf (.ref _) => none
  | .leaf (.ty _) => none
  | _ => some false
def isDct : D → Option Bool
  | .dct _ _ => some true
  | .obj _ _ _ => none
  | .leaf (.byt _) => none
  | .leaf (.flt _) => none
  | .leaf (.ref _) => none
  | .leaf (.ty _) => none
  | _ => some false
theorem isT_str {K : PySem.W.Frag} : IsT K (.type "str") isStr := by
  refine isT_of fun d b e => ?_
  cases d with
  | leaf v => cases v <;> first | (cases e; done) | (cases e; exact ⟨_, rfl, by decide +kernel⟩)
  | seq b' ds => cases b' <;> (cases e; exact ⟨_, rfl, by decide +kernel⟩)
  | dct ks ds => cases e; exact ⟨_, rfl, by decide +kernel⟩
  | obj C ns ds => cases e
theorem isT_int {K : PySem.W.Frag} : IsT K (.type "int") isInt := by
  refine isT_of fun d b e => ?_
  cases d with
  | leaf v => cases v <;> first | (cases e; done) | (cases e; exact ⟨_, rfl, by decide +kernel⟩)
  | seq b' ds => cases b' <;> (cases e; exact ⟨_, rfl, by decide +kernel⟩)
  | dct ks ds => cases e; exact ⟨_, rfl, by decide +kernel⟩
  | obj C ns ds => cases e
theorem isT_bool {K : PySem.W.Frag} : IsT K (.type "bool") isBool := by
  refine isT_of fun d b e => ?_
  cases d with
  | leaf v => cases v <;> first | (cases e; done) | (cases e; exact ⟨_, rfl, by decide +kernel⟩)
  | seq b' ds => cases b' <;> (cases e; exact ⟨_, rfl, by decide +kernel⟩)
  | dct ks ds => cases e; exact ⟨_, rfl, by decide +kernel⟩
  | obj C ns ds => cases e
theorem isT_lst {K : PySem.W.Frag} : IsT K (.type "list") isLst := by
  refine isT_of fun d b e => ?_
  cases d with
  | leaf v => cases v <;> first | (cases e; done) | (cases e; exact ⟨_, rfl, by decide +kernel⟩)
  | seq b' ds => cases b' <;> (cases e; exact ⟨_, rfl, by decide +kernel⟩)
  | dct ks ds => cases e; exact ⟨_, rfl, by decide +kernel⟩
  | obj C ns ds => cases e
theorem isT_tup {K : PySem.W.Frag} : IsT K (.type "tuple") isTup := by
  refine isT_of fun d b e => ?_
  cases d with
  | leaf v => cases v <;> first | (cases e; done) | (cases e; exact ⟨_, rfl, by decide +kernel⟩)
  | seq b' ds => cases b' <;> (cases e; exact ⟨_, rfl, by decide +kernel⟩)
  | dct ks ds => cases e; exact ⟨_, rfl, by decide +kernel⟩
  | obj C ns ds => cases e
theorem isT_dct {K : PySem.W.Frag} : IsT K (.type "dict") isDct := by
  refine isT_of fun d b e => ?_
  cases d with
  | leaf v => cases v <;> first | (cases e; done) | (cases e; exact ⟨_, rfl, by decide +kernel⟩)
  | seq b' ds => cases b' <;> (cases e; exact ⟨_, rfl, by decide +kernel⟩)
  | dct ks ds => cases e; exact ⟨_, rfl, by decide +kernel⟩
  | obj C ns ds => cases e
theorem pu_isi {x : Str} {p pos : Pos} {T : String} {eT : Expr} {q : D → Option Bool} (hT : IsT X.K (.type T) q) (hg : Gl X x) (hm : X.mg x = none) (hv : bootBuiltins x = some (.builtin "isinstance")) (ha : ViD X e t φ) (hT2 : PE X eT (tC (.ty T))) (hn : x ≠ "__name__" := by decide) (hdb : (x == ("__debug__" : Str)) = false := by decide)
    (he1 : starEach [eT] X.env = (false, eval eT X.env) :: starEach [] X.env := by rfl) (he : starEach [e, eT] X.env = (false, eval e X.env) :: starEach [eT] X.env := by rfl) (hpl : (backTo pos (starEach [eT] X.env)).any (·.1) = false := by rfl) :
    PuD X (.Call (.Name x p) [e, eT] [] pos) (tCB (rIsi X.K) (tCons t (tCons (tC (.ty T)) tNil))) (fun ρ => ((φ ρ).bind q).map bD) := ⟨pe_callB call_isi hg hm hv (pa_cons ha.pe (pa_cons hT2 pa_nil he1) he) hn hdb he hpl, fun ρ d ee G H σ xx Q k => by
  obtain ⟨b, h1, rfl⟩ := Option.map_eq_some_iff.mp ee
  obtain ⟨d1, h2, h3⟩ := Option.bind_eq_some_iff.mp h1
  refine ha.ev ρ d1 h2 G H σ xx _ fun v G1 H1 f1 r1 => ?_
  obtain ⟨tt, h4, h5⟩ := hT d1 b h3 H1 v (r1.rep f1.gh)
  exact ⟨v, .ty T, tt, .type T, b, rfl, .ty T, h4, h5, k _ G1 H1 f1 (.lf rfl)⟩⟩
/-- isinstance(x, (T, U, ..)) -/
def IsTs (K : PySem.W.Frag) (us : List Value) (p : D → Option Bool) : Prop := ∀ d b, p d = some b → ∀ (H : Hp) (v : V), Rep H d v → ∃ t, TyX K H v t ∧ PySem.W.kitAny K t us = some b
theorem isTs_of {K : PySem.W.Frag} {Ts : List String} {p : D → Option Bool} (h : ∀ d b, p d = some b → ∃ s, tyName d = some s ∧ PySem.W.kitAny K (.type s) (Ts.map Value.type) = some b) : IsTs K (Ts.map Value.type) p := fun d b e H v r => by
  obtain ⟨s, h1, h2⟩ := h d b e
  exact ⟨_, ty_of h1 r, h2⟩
theorem kitAny2 {K : PySem.W.Frag} {a b c : String} {r q : Bool} (h : kitB a b = some r) (h2 : kitB a c = some q) : PySem.W.kitAny K (.type a) [.type b, .type c] = some (r || q) := by
  unfold PySem.W.kitAny
  rw [kit_ty h]
  cases r with
  | true => rfl
  | false =>
    show PySem.W.kitAny K (.type a) [.type c] = _
    unfold PySem.W.kitAny
    rw [kit_ty h2]
    cases q <;> rfl
theorem kitAny3 {K : PySem.W.Frag} {a b c d : String} {r q p : Bool} (h : kitB a b = some r) (h2 : kitB a c = some q) (h3 : kitB a d = some p) : PySem.W.kitAny K (.type a) [.type b, .type c, .type d] = some (r || (q || p)) := by
  unfold PySem.W.kitAny
  rw [kit_ty h]
  cases r with
  | true => rfl
  | false =>
    show PySem.W.kitAny K (.type a) [.type c, .type d] = _
    rw [kitAny2 h2 h3]
    rfl
def isSeq : D → Option Bool
  | .seq _ _ => some true
  | .obj _ _ _ => none
  | .leaf (.byt _) => none
  | .leaf (.flt _) => none
  | .leaf (.ref _) => none
  | .leaf (.ty _) => none
  | _ => some false
def isIntSeq : D → Option Bool
  | .seq _ _ => some true
  | .leaf (.int _) => some true
  | .leaf (.bl _) => some true
  | .obj _ _ _ => none
  | .leaf (.byt _) => none
  | .leaf (.flt _) => none
  | .leaf (.ref _) => none
  | .leaf (.ty _) => none
  | _ => some false
theorem isTs_seq {K : PySem.W.Frag} : IsTs K [.type "list", .type "tuple"] isSeq := by
  refine isTs_of (Ts := ["list", "tuple"]) fun d b e => ?_
  cases d with
  | leaf v => cases v <;> first | (cases e; done) | (cases e; exact ⟨_, rfl, kitAny2 (r := false) (q := false) (by decide +kernel) (by decide +kernel)⟩)
  | seq b' ds =>
    cases b' with
    | true => cases e; exact ⟨_, rfl, kitAny2 (r := true) (q := false) (by decide +kernel) (by decide +kernel)⟩
    | false => cases e; exact ⟨_, rfl, kitAny2 (r := false) (q := true) (by decide +kernel) (by decide +kernel)⟩
  | dct ks ds => cases e; exact ⟨_, rfl, kitAny2 (r := false) (q := false) (by decide +kernel) (by decide +kernel)⟩
  | obj C ns ds => cases e
theorem isTs_intSeq {K : PySem.W.Frag} : IsTs K [.type "int", .type "list", .type "tuple"] isIntSeq := by
  refine isTs_of (Ts := ["int", "list", "tuple"]) fun d b e => ?_
  cases d with
  | leaf v => cases v <;> first | (cases e; done) | (cases e; exact ⟨_, rfl, kitAny3 (r := true) (q := false) (p := false) (by decide +kernel) (by decide +kernel) (by decide +kernel)⟩) | (cases e; exact ⟨_, rfl, kitAny3 (r := false) (q := false) (p := false) (by decide +kernel) (by decide +kernel) (by decide +kernel)⟩)
  | seq b' ds =>
    cases b' with
    | true => cases e; exact ⟨_, rfl, kitAny3 (r := false) (q := true) (p := false) (by decide +kernel) (by decide +kernel) (by decide +kernel)⟩
    | false => cases e; exact ⟨_, rfl, kitAny3 (r := false) (q := false) (p := true) (by decide +kernel) (by decide +kernel) (by decide +kernel)⟩
  | dct ks ds => cases e; exact ⟨_, rfl, kitAny3 (r := false) (q := false) (p := false) (by decide +kernel) (by decide +kernel) (by decide +kernel)⟩
  | obj C ns ds => cases e
/-- the written types -/
inductive TyArgs (X : Cx) : List Expr → TA → List V → List Value → Prop where
  | nil : TyArgs X [] tNil [] []
  | cons {e : Expr} {es : List Expr} {tr : TA} {T : String} {vs : List V} {us : List Value} (h : PE X e (tC (.ty T))) (r : TyArgs X es tr vs us) (hs : starEach (e :: es) X.env = (false, eval e X.env) :: starEach es X.env) : TyArgs X (e :: es) (tCons (tC (.ty T)) tr) (.ty T :: vs) (.type T :: us)
theorem TyArgs.pa {es : List Expr} {tr : TA} {vs : List V} {us : List Value} (h : TyArgs X es tr vs us) : PA X es tr := by
  induction h with
  | nil => exact pa_nil
  | cons h r hs ih => exact pa_cons h ih hs
theorem TyArgs.ev {es : List Expr} {tr : TA} {vs : List V} {us : List Value} (h : TyArgs X es tr vs us) : ∀ (σ : St) (H : Hp) (Q : List V → Hp → Prop), Q vs H → tr σ H Q := by
  induction h with
  | nil => intro σ H Q q; exact q
  | cons h r hs ih => intro σ H Q q; exact ih σ H _ q
theorem TyArgs.cls {es : List Expr} {tr : TA} {vs : List V} {us : List Value} (h : TyArgs X es tr vs us) : Paired ClsV vs us := by
  induction h with
  | nil => exact .nil
  | cons h r hs ih => exact .cons (.ty _) ih
theorem pu_isiT {x : Str} {p pos pos2 : Pos} {x1 : _} {us : List Value} {vs : List V} {es' : List Expr} {tr : TA} {q : D → Option Bool} (hT : IsTs X.K us q) (hg : Gl X x) (hm : X.mg x = none) (hv : bootBuiltins x = some (.builtin "isinstance")) (ha : ViD X e t φ) (hT2 : TyArgs X es' tr vs us) (hl : vs.length ≤ 10) (hn : x ≠ "__name__" := by decide) (hdb : (x == ("__debug__" : Str)) = false := by decide)
    (he1 : starEach [.Tuple es' x1 pos2] X.env = (false, eval (.Tuple es' x1 pos2) X.env) :: starEach [] X.env := by rfl) (he : starEach [e, .Tuple es' x1 pos2] X.env = (false, eval e X.env) :: starEach [.Tuple es' x1 pos2] X.env := by rfl) (hpl : (backTo pos (starEach [.Tuple es' x1 pos2] X.env)).any (·.1) = false := by rfl) :
    PuD X (.Call (.Name x p) [e, .Tuple es' x1 pos2] [] pos) (tCB (rIsiT X.K) (tCons t (tCons (tTup tr) tNil))) (fun ρ => ((φ ρ).bind q).map bD) := ⟨pe_callB call_isiT hg hm hv (pa_cons ha.pe (pa_cons (pe_tup hT2.pa) pa_nil he1) he) hn hdb he hpl, fun ρ d ee G H σ xx Q k => by
  obtain ⟨b, h1, rfl⟩ := Option.map_eq_some_iff.mp ee
  obtain ⟨d1, h2, h3⟩ := Option.bind_eq_some_iff.mp h1
  refine ha.ev ρ d1 h2 G H σ xx _ fun v G1 H1 f1 r1 => ?_
  refine hT2.ev σ H1 _ ⟨by rw [sizeLine_eq]; omega, fun p np => ?_⟩
  obtain ⟨tt, h4, h5⟩ := hT d1 b h3 _ v ((r1.rep f1.gh).mono (Ex.new (o := .tup vs) np))
  exact ⟨v, p, vs, tt, us, b, rfl, upd_same, hT2.cls, h4, h5, k _ G1 _ (f1.trans (.tmp f1.gh np)) (.lf rfl)⟩⟩
/-! ### truth, and, or, not, if -/
def truD : D → Option Bool
  | .leaf .non => some false
  | .leaf (.bl b) => some b
  | .leaf (.int i) => some (i != 0)
  | .leaf (.str x) => some ((x.length : Int) != 0)
  | .seq _ ds => some (!ds.isEmpty)
  | .dct _ ds => some (!ds.isEmpty)
  | _ => none
theorem isEmpty_len {α β : Type} : ∀ {as : List α} {bs : List β}, as.length = bs.length → as.isEmpty = bs.isEmpty
  | [], [], _ => rfl
  | _ :: _, _ :: _, _ => rfl
  | [], _ :: _, h => by simp at h
  | _ :: _, [], h => by simp at h
theorem tru_of {K : PySem.W.Frag} {d : D} {k : Bool} (h : truD d = some k) {G H : Hp} {v : V} (x : Ex G H) (r : View G H d v) : TruV K v H k := by
  unfold truD at h
  split at h
  · cases h; obtain ⟨rfl, _⟩ := r.lf; rfl
  · cases h; obtain ⟨rfl, _⟩ := r.lf; rfl
  · cases h; obtain ⟨rfl, _⟩ := r.lf; rfl
  · cases h
    obtain ⟨rfl, lf⟩ := r.lf
    exact ⟨by rw [sizeLine_eq]; have := of_decide_eq_true lf; omega, rfl⟩
  · rename_i b ds
    cases h
    obtain ⟨a, us, rfl, h1, l1, q⟩ := r.seq x
    rw [← isEmpty_len q.len]
    cases b with
    | true => exact .inl ⟨us, SqL.of h1, rfl⟩
    | false => exact .inr (.inl ⟨us, SqT.of h1, rfl⟩)
  · rename_i ks ds
    cases h
    obtain ⟨a, us, rfl, h1, l0, l1, q⟩ := r.dct x
    refine .inr (.inr ⟨_, h1, ?_⟩)
    rw [isEmpty_len (as := ds) (bs := ks.zip us) (by rw [List.length_zip, q.len, l0, Nat.min_self])]
  · cases h
/-- the truth of a value -/
def orF (φ ψ : Env → Option D) : Env → Option D := fun ρ => (φ ρ).bind fun x => (truD x).bind fun k => if k = true then some x else ψ ρ
def andF (φ ψ : Env → Option D) : Env → Option D := fun ρ => (φ ρ).bind fun x => (truD x).bind fun k => if k = true then ψ ρ else some x
section
variable {rest : List Expr} {pos : Pos}
theorem pu_orT (ha : PuD X a ta φa) (hb : PuD X (.BoolOp .Or (b :: rest) pos) tb φb) : PuD X (.BoolOp .Or (a :: b :: rest) pos) (tOrT X.K ta tb) (orF φa φb) := ⟨pe_orT ha.pe hb.pe, fun ρ d e G H σ x Q k => by
  obtain ⟨d1, e1, e2⟩ := Option.bind_eq_some_iff.mp e
  obtain ⟨kk, e3, e4⟩ := Option.bind_eq_some_iff.mp e2
  refine ha.ev ρ d1 e1 G H σ x _ fun v G1 H1 f1 r1 => ⟨kk, tru_of e3 f1.gh (.inl r1), ?_⟩
  cases kk with
  | true => cases e4; exact k v G1 H1 f1 r1
  | false => exact hb.ev ρ d e4 G1 H1 σ (x.mono f1) Q fun v2 G2 H2 f2 r2 => k v2 G2 H2 (f1.trans f2) r2⟩
theorem pu_andT (ha : PuD X a ta φa) (hb : PuD X (.BoolOp .And (b :: rest) pos) tb φb) : PuD X (.BoolOp .And (a :: b :: rest) pos) (tAndT X.K ta tb) (andF φa φb) := ⟨pe_andT ha.pe hb.pe, fun ρ d e G H σ x Q k => by
  obtain ⟨d1, e1, e2⟩ := Option.bind_eq_some_iff.mp e
  obtain ⟨kk, e3, e4⟩ := Option.bind_eq_some_iff.mp e2
  refine ha.ev ρ d1 e1 G H σ x _ fun v G1 H1 f1 r1 => ⟨kk, tru_of e3 f1.gh (.inl r1), ?_⟩
  cases kk with
  | false => cases e4; exact k v G1 H1 f1 r1
  | true => exact hb.ev ρ d e4 G1 H1 σ (x.mono f1) Q fun v2 G2 H2 f2 r2 => k v2 G2 H2 (f1.trans f2) r2⟩
theorem pu_one {op : BoolOp} (ha : PuD X a ta φa) : PuD X (.BoolOp op [a] pos) ta φa := ⟨pe_one ha.pe, ha.ev⟩
def notF (φ : Env → Option D) : Env → Option D := fun ρ => (φ ρ).bind fun x => (truD x).map fun k => bD (!k)
theorem pu_notT (ha : ViD X a ta φa) : PuD X (.UnaryOp .Not a pos) (tNotT X.K ta) (notF φa) := ⟨pe_notT ha.pe, fun ρ d e G H σ x Q k => by
  obtain ⟨d1, e1, e2⟩ := Option.bind_eq_some_iff.mp e
  obtain ⟨kk, e3, rfl⟩ := Option.map_eq_some_iff.mp e2
  exact ha.ev ρ d1 e1 G H σ x _ fun v G1 H1 f1 r1 => ⟨kk, tru_of e3 f1.gh r1, k _ G1 H1 f1 (.lf rfl)⟩⟩
/-! tests -/
def truF (φ : Env → Option D) : Env → Option Bool := fun ρ => (φ ρ).bind truD
def asB : D → Option Bool
  | .leaf (.bl b) => some b
  | _ => none
def asBF (φ : Env → Option D) : Env → Option Bool := fun ρ => (φ ρ).bind asB
theorem te_tru (ha : ViD X a ta φa) (he : ∀ whole, isTrue a X.env whole = (do let v ← whole; standAt a.pos; holding [v] (truthy v))) : TeD X a (fun σ H Q => ta σ H fun x H' => ∃ k, TruV X.K x H' k ∧ Q k H') (truF φa) := ⟨pt_truth ha.pe he, fun ρ b e G H σ x Q k => by
  obtain ⟨d1, e1, e2⟩ := Option.bind_eq_some_iff.mp e
  exact ha.ev ρ d1 e1 G H σ x _ fun v G1 H1 f1 r1 => ⟨b, tru_of e2 f1.gh r1, k G1 H1 f1⟩⟩
theorem te_test {t : TE} (h : PuS t φ) : TeS (tTest t) (asBF φ) := fun ρ b e G H σ x Q k => by
  obtain ⟨d1, e1, e2⟩ := Option.bind_eq_some_iff.mp e
  refine h ρ d1 e1 G H σ x _ fun v G1 H1 f1 r1 => ?_
  unfold asB at e2
  split at e2
  · cases e2
    obtain ⟨rfl, _⟩ := r1.un_lf
    exact ⟨_, rfl, k G1 H1 f1⟩
  · cases e2
theorem te_cmp {op : CmpOp} {r : R2} {o : D → D → Option D} (ho : OpR X (compareOp op) r) (hd : R2D r o) (hm : behindInMarks op b = false) (ha : ViD X a ta φa) (hb : ViD X b tb φb) : TeD X (.Compare a [op] [b] pos) (tTest (tOp r ta tb)) (asBF (bin2 o φa φb)) :=
  ⟨pt_cmpR ho ha.pe hb.pe hm, te_test (op_ev hd ha.ev hb.ev)⟩
theorem TwD.te {tt : TT} {χ : Env → Option Bool} (h : TwD X a tt χ) : TeD X a tt χ := ⟨h.pw.pt, h.ev⟩
def andB (χ ξ : Env → Option Bool) : Env → Option Bool := fun ρ => (χ ρ).bind fun k => if k = true then ξ ρ else some false
def orB (χ ξ : Env → Option Bool) : Env → Option Bool := fun ρ => (χ ρ).bind fun k => if k = true then some true else ξ ρ
def notB (χ : Env → Option Bool) : Env → Option Bool := fun ρ => (χ ρ).map (!·)
variable {tt tu : TT} {χ ξ : Env → Option Bool}
theorem tw_and1 (h : TeD X a tt χ) : TwD X (.BoolOp .And [a] pos) tt χ := ⟨pw_and1 h.pt, h.ev⟩
theorem tw_or1 (h : TeD X a tt χ) : TwD X (.BoolOp .Or [a] pos) tt χ := ⟨pw_or1 h.pt, h.ev⟩
theorem tw_and (h : TeD X a tt χ) (h2 : TwD X (.BoolOp .And (b :: rest) pos) tu ξ) : TwD X (.BoolOp .And (a :: b :: rest) pos) (tAnd tt tu) (andB χ ξ) := ⟨pw_and h.pt h2.pw, fun ρ b e G H σ x Q k => by
  obtain ⟨k1, e1, e2⟩ := Option.bind_eq_some_iff.mp e
  refine h.ev ρ k1 e1 G H σ x _ fun G1 H1 f1 => ?_
  cases k1 with
  | true => exact h2.ev ρ b e2 G1 H1 σ (x.mono f1) Q fun G2 H2 f2 => k G2 H2 (f1.trans f2)
  | false => cases e2; exact k G1 H1 f1⟩
theorem tw_or (h : TeD X a tt χ) (h2 : TwD X (.BoolOp .Or (b :: rest) pos) tu ξ) : TwD X (.BoolOp .Or (a :: b :: rest) pos) (tOr tt tu) (orB χ ξ) := ⟨pw_or h.pt h2.pw, fun ρ b e G H σ x Q k => by
  obtain ⟨k1, e1, e2⟩ := Option.bind_eq_some_iff.mp e
  refine h.ev ρ k1 e1 G H σ x _ fun G1 H1 f1 => ?_
  cases k1 with
  | false => exact h2.ev ρ b e2 G1 H1 σ (x.mono f1) Q fun G2 H2 f2 => k G2 H2 (f1.trans f2)
  | true => cases e2; exact k G1 H1 f1⟩
theorem te_not (h : TeD X a tt χ) : TeD X (.UnaryOp .Not a pos) (tNot tt) (notB χ) := ⟨pt_not h.pt, fun ρ b e G H σ x Q k => by
  obtain ⟨k1, e1, rfl⟩ := Option.map_eq_some_iff.mp e
  exact h.ev ρ k1 e1 G H σ x _ fun G1 H1 f1 => k G1 H1 f1⟩
def ifF {β : Type} (χ : Env → Option Bool) (φ ψ : Env → Option β) : Env → Option β := fun ρ => (χ ρ).bind fun k => if k = true then φ ρ else ψ ρ
theorem pu_if (h : TeD X c tt χ) (ha : PuD X a ta φa) (hb : PuD X b tb φb) : PuD X (.IfExp c a b pos) (tIf tt ta tb) (ifF χ φa φb) := ⟨pe_ifExp h.pt ha.pe hb.pe, fun ρ d e G H σ x Q k => by
  obtain ⟨k1, e1, e2⟩ := Option.bind_eq_some_iff.mp e
  refine h.ev ρ k1 e1 G H σ x _ fun G1 H1 f1 => ?_
  cases k1 with
  | true => exact ha.ev ρ d e2 G1 H1 σ (x.mono f1) Q fun v G2 H2 f2 r => k v G2 H2 (f1.trans f2) r
  | false => exact hb.ev ρ d e2 G1 H1 σ (x.mono f1) Q fun v G2 H2 f2 r => k v G2 H2 (f1.trans f2) r⟩
/-! ### displays -/
theorem pu_tup {x1 : _} {tr : TA} (h : ArD X es tr ψ) : PuD X (.Tuple es x1 pos) (tTup tr) (fun ρ => (ψ ρ).bind fun ds => if ds.length ≤ Lim then some (.seq false ds) else none) := ⟨pe_tup h.pa, fun ρ d e G H σ x Q k => by
  obtain ⟨ds, e1, e2⟩ := Option.bind_eq_some_iff.mp e
  split at e2
  · rename_i hl
    cases e2
    refine h.ev ρ ds e1 G H σ x _ fun vs G1 H1 f1 r1 => ⟨by rw [r1.len]; exact lim_line (by omega), fun p np => k _ _ _ (f1.trans (.new f1.gh np)) (.sq (b := false) upd_same hl (r1.mono (Ex.new (f1.gh.back np))))⟩
  · cases e2⟩
theorem ow_lst {tr : TA} (h : ArD X es tr ψ) : OwD X (.List es pos) (tLst tr) (fun ρ => (ψ ρ).bind fun ds => if ds.length ≤ Lim then some ds else none) := ⟨pe_lst h.pa, fun ρ d e G H σ x Q k => by
  obtain ⟨ds, e1, e2⟩ := Option.bind_eq_some_iff.mp e
  split at e2
  · rename_i hl
    cases e2
    refine h.ev ρ _ e1 G H σ x _ fun vs G1 H1 f1 r1 => ⟨by rw [r1.len]; exact lim_line (by omega), fun p np => k p vs G1 _ (f1.trans (.tmp f1.gh np)) (f1.ne np) (f1.gh.back np) upd_same hl r1⟩
  · cases e2⟩
/-! ### slices -/
def PoS (t : TO) (φ : Env → Option (Option Int)) : Prop := ∀ ρ o, φ ρ = some o → ∀ (G H : Hp) (σ : St), EnvOk G H σ ρ → ∀ Q : Option Int → Hp → Prop, (∀ G2 H2, Fr G H G2 H2 → Q o H2) → t σ H Q
structure PoD (X : Cx) (e : Option Expr) (t : TO) (φ : Env → Option (Option Int)) : Prop where
  po : PO X e t
  ev : PoS t φ
theorem so_none : PoD X none tNoPart (fun _ => some none) := ⟨po_none, fun ρ o e G H σ x Q k => by cases e; exact k G H (.refl x.gh)⟩
def asI : D → Option Int
  | .leaf (.int i) => some i
  | _ => none
theorem so_some (h : PuD X e t φ) : PoD X (some e) (tPart t) (fun ρ => ((φ ρ).bind asI).map some) := ⟨po_some h.pe, fun ρ o ee G H σ x Q k => by
  obtain ⟨i, e1, rfl⟩ := Option.map_eq_some_iff.mp ee
  obtain ⟨d, e2, e3⟩ := Option.bind_eq_some_iff.mp e1
  refine h.ev ρ d e2 G H σ x _ fun v G1 H1 f1 r1 => ?_
  unfold asI at e3
  split at e3
  · cases e3
    obtain ⟨rfl, _⟩ := r1.un_lf
    exact ⟨i, rfl, k G1 H1 f1⟩
  · cases e3⟩
def cutD {α : Type} (xs : List α) (lo hi : Option Int) : List α := (xs.drop (HT.sIx xs.length 0 lo)).take (HT.sIx xs.length xs.length hi - HT.sIx xs.length 0 lo)
theorem reps_cut {H : Hp} {ds : List D} {us : List V} (h : Reps H ds us) (lo hi : Option Int) : Reps H (cutD ds lo hi) (cutV us lo hi) := by
  unfold cutD cutV
  rw [h.len]
  exact (h.dp _).tk _
theorem cut_len {α : Type} (xs : List α) (lo hi : Option Int) : (cutD xs lo hi).length ≤ xs.length := by
  unfold cutD
  rw [List.length_take, List.length_drop]
  omega
def slF {β : Type} (op : D → Option Int → Option Int → Option β) (φ : Env → Option D) (l h : Env → Option (Option Int)) : Env → Option β := fun ρ => (φ ρ).bind fun x => (l ρ).bind fun lo => (h ρ).bind fun hi => op x lo hi
def slO : D → Option Int → Option Int → Option (List D)
  | .seq true ds, lo, hi => some (cutD ds lo hi)
  | _, _, _ => none
def slT : D → Option Int → Option Int → Option D
  | .seq false ds, lo, hi => some (.seq false (cutD ds lo hi))
  | _, _, _ => none
section
variable {lo hi : Option Expr} {tl th : TO} {l h : Env → Option (Option Int)} {p2 : Pos}
theorem slF_un {β : Type} {op : D → Option Int → Option Int → Option β} {ρ : Env} {z : β} (e : slF op φ l h ρ = some z) : ∃ x i j, φ ρ = some x ∧ l ρ = some i ∧ h ρ = some j ∧ op x i j = some z := by
  obtain ⟨x, h1, h2⟩ := Option.bind_eq_some_iff.mp e
  obtain ⟨i, h3, h4⟩ := Option.bind_eq_some_iff.mp h2
  obtain ⟨j, h5, h6⟩ := Option.bind_eq_some_iff.mp h4
  exact ⟨x, i, j, h1, h3, h5, h6⟩
theorem ow_sl (ha : ViD X a ta φ) (hl : PoD X lo tl l) (hh : PoD X hi th h) : OwD X (.Subscript a (.Slice lo hi none p2) pos) (tSl (rSlL X.K) ta tl th) (slF slO φ l h) := ⟨pe_slice sl_list ha.pe hl.po hh.po, fun ρ z e G H σ x Q k => by
  obtain ⟨d, i, j, e1, e2, e3, e4⟩ := slF_un e
  refine ha.ev ρ d e1 G H σ x _ fun v G1 H1 f1 r1 => ?_
  refine hl.ev ρ i e2 G1 H1 σ (x.mono f1) _ fun G2 H2 f2 => ?_
  refine hh.ev ρ j e3 G2 H2 σ ((x.mono f1).mono f2) _ fun G3 H3 f3 => ?_
  have f := f1.trans (f2.trans f3)
  have r3 := r1.mono (f2.trans f3)
  unfold slO at e4
  split at e4
  · rename_i ds lo' hi'
    cases e4
    obtain ⟨a1, us, rfl, h1, l1, q1⟩ := r3.seq f3.gh
    exact ⟨a1, us, rfl, SqL.of h1, fun p np => k p _ G3 _ (f.trans (.tmp f3.gh np)) (f.ne np) (f3.gh.back np) upd_same (Nat.le_trans (cut_len _ _ _) l1) (reps_cut q1 _ _)⟩
  · cases e4⟩
theorem pu_slT (ha : ViD X a ta φ) (hl : PoD X lo tl l) (hh : PoD X hi th h) : PuD X (.Subscript a (.Slice lo hi none p2) pos) (tSl (rSlA X.K) ta tl th) (slF slT φ l h) := ⟨pe_slice sl_tupA ha.pe hl.po hh.po, fun ρ z e G H σ x Q k => by
  obtain ⟨d, i, j, e1, e2, e3, e4⟩ := slF_un e
  refine ha.ev ρ d e1 G H σ x _ fun v G1 H1 f1 r1 => ?_
  refine hl.ev ρ i e2 G1 H1 σ (x.mono f1) _ fun G2 H2 f2 => ?_
  refine hh.ev ρ j e3 G2 H2 σ ((x.mono f1).mono f2) _ fun G3 H3 f3 => ?_
  have f := f1.trans (f2.trans f3)
  have r3 := r1.mono (f2.trans f3)
  match d, e4, r3 with
  | .seq false ds, e4, r3 =>
    cases e4
    have r4 := r3.tup
    obtain ⟨a1, us, rfl, h1, l1, q1⟩ := r4.un_sq
    refine ⟨a1, us, rfl, SqT.of (f3.gh _ _ h1), fun w => ?_, fun w p np => k _ _ _ (f.trans (.new f3.gh np)) (.sq (b := false) upd_same (Nat.le_trans (cut_len _ _ _) l1) ((reps_cut q1 _ _).mono (Ex.new (f3.gh.back np))))⟩
    have e5 : cutD ds i j = ds := by
      unfold cutD
      rw [← q1.len, w.1, w.2, List.drop_zero, Nat.sub_zero, q1.len, List.take_length]
    rw [e5] at k
    exact k _ _ _ f r4
  | .seq true ds, e4, _ => cases e4
  | .leaf _, e4, _ => cases e4
  | .dct _ _, e4, _ => cases e4
  | .obj _ _ _, e4, _ => cases e4⟩
end
end
end
end L2.Tr

/-! Trees: statements, loops, comprehensions, defs. -/
namespace L2.Tr
open PySem PySem.Spec PyProof.Rows
/-! ### slots written -/
def Own (σ : St) (ρ : Env) (a : Addr) : Prop := ∃ (i : Nat) (ds : D), ρ[i]? = some (Sl.ow ds) ∧ σ[i]? = some (some (V.ref a))
section
variable {G H G2 H2 G3 H3 : Hp} {σ σ2 σ3 : St} {ρ ρ2 ρ3 : Env}
theorem EnvOk.setP (x : EnvOk G H σ ρ) {d : D} {v : V} (r : Rep G d v) (i : Nat) : EnvOk G H (σ.set i (some v)) (ρ.set i (Sl.pu d)) := by
  have hl := x.len
  refine ⟨x.gh, by rw [List.length_set, List.length_set]; exact hl, fun j e h => ?_, fun j es h => ?_, fun j k es fs p h1 h2 h3 h4 => ?_⟩
  · by_cases hj : i = j
    · subst hj
      have hi : i < ρ.length := by
        have := (List.getElem?_eq_some_iff.mp h).1
        rwa [List.length_set] at this
      rw [List.getElem?_set_self hi] at h
      cases h
      exact ⟨v, List.getElem?_set_self (by omega), r⟩
    · rw [List.getElem?_set_ne hj] at h ⊢
      exact x.pu j e h
  · by_cases hj : i = j
    · subst hj
      have hi : i < ρ.length := by
        have := (List.getElem?_eq_some_iff.mp h).1
        rwa [List.length_set] at this
      rw [List.getElem?_set_self hi] at h
      cases h
    · rw [List.getElem?_set_ne hj] at h ⊢
      exact x.ow j es h
  · have ne : ∀ {j : Nat} {es : D}, (ρ.set i (Sl.pu d))[j]? = some (Sl.ow es) → i ≠ j := fun {j es} h e => by
      subst e
      have hi : i < ρ.length := by
        have := (List.getElem?_eq_some_iff.mp h).1
        rwa [List.length_set] at this
      rw [List.getElem?_set_self hi] at h
      cases h
    rw [List.getElem?_set_ne (ne h1)] at h3
    rw [List.getElem?_set_ne (ne h2)] at h4
    have n1 := ne h1
    have n2 := ne h2
    rw [List.getElem?_set_ne n1] at h1
    rw [List.getElem?_set_ne n2] at h2
    exact x.inj j k es fs p h1 h2 h3 h4
theorem own_setP {d : D} {v : V} {i : Nat} {a : Addr} (hl : σ.length = ρ.length) (h : Own (σ.set i (some v)) (ρ.set i (Sl.pu d)) a) : Own σ ρ a := by
  obtain ⟨j, es, h1, h2⟩ := h
  by_cases hj : i = j
  · subst hj
    have hi : i < ρ.length := by
      have := (List.getElem?_eq_some_iff.mp h1).1
      rwa [List.length_set] at this
    rw [List.getElem?_set_self hi] at h1
    cases h1
  · rw [List.getElem?_set_ne hj] at h1 h2
    exact ⟨j, es, h1, h2⟩
theorem EnvOk.setO (x : EnvOk G H σ ρ) {ds : D} {o : HO} {p : Addr} (i : Nat) (n : G p = none) (hp : H p = some o) (r : Top G ds o) (new : ∀ j es, i ≠ j → ρ[j]? = some (Sl.ow es) → σ[j]? ≠ some (some (V.ref p))) :
    EnvOk G H (σ.set i (some (.ref p))) (ρ.set i (Sl.ow ds)) := by
  have hlen := x.len
  have lt : ∀ {j : Nat} {s : Sl}, (ρ.set i (Sl.ow ds))[j]? = some s → j < ρ.length := fun {j s} h => by
    have := (List.getElem?_eq_some_iff.mp h).1
    rwa [List.length_set] at this
  refine ⟨x.gh, by rw [List.length_set, List.length_set]; exact hlen, fun j e h => ?_, fun j es h => ?_, fun j k es fs q h1 h2 h3 h4 => ?_⟩
  · have hj := lt h
    by_cases e' : i = j
    · subst e'
      rw [List.getElem?_set_self hj] at h
      cases h
    · rw [List.getElem?_set_ne e'] at h ⊢
      exact x.pu j e h
  · have hj := lt h
    by_cases e' : i = j
    · subst e'
      rw [List.getElem?_set_self hj] at h
      cases h
      exact ⟨p, o, List.getElem?_set_self (by omega), n, hp, r⟩
    · rw [List.getElem?_set_ne e'] at h ⊢
      exact x.ow j es h
  · have hj := lt h1
    have hk := lt h2
    by_cases e1 : i = j
    · by_cases e2 : i = k
      · omega
      · subst e1
        rw [List.getElem?_set_self (by omega)] at h3
        rw [List.getElem?_set_ne e2] at h4 h2
        cases h3
        exact absurd h4 (new k fs e2 h2)
    · by_cases e2 : i = k
      · subst e2
        rw [List.getElem?_set_self (by omega)] at h4
        rw [List.getElem?_set_ne e1] at h3 h1
        cases h4
        exact absurd h3 (new j es e1 h1)
      · rw [List.getElem?_set_ne e1] at h3 h1
        rw [List.getElem?_set_ne e2] at h4 h2
        exact x.inj j k es fs q h1 h2 h3 h4
theorem own_setO {ds : D} {p : Addr} {i : Nat} {a : Addr} (hl : σ.length = ρ.length) (h : Own (σ.set i (some (.ref p))) (ρ.set i (Sl.ow ds)) a) : Own σ ρ a ∨ a = p := by
  obtain ⟨j, es, h1, h2⟩ := h
  by_cases hj : i = j
  · subst hj
    have hi : i < ρ.length := by
      have := (List.getElem?_eq_some_iff.mp h1).1
      rwa [List.length_set] at this
    rw [List.getElem?_set_self (by omega)] at h2
    cases h2
    exact .inr rfl
  · rw [List.getElem?_set_ne hj] at h1 h2
    exact .inl ⟨j, es, h1, h2⟩
/-- own instances stay where they are -/
def ObK (σ : St) (ρ : Env) (σ2 : St) (ρ2 : Env) : Prop := ∀ (i : Nat) (C : Addr) (ns : List Str) (ds : List D), ρ2[i]? = some (Sl.ow (.obj C ns ds)) → σ2[i]? = σ[i]? ∧ ∃ C' ns' ds', ρ[i]? = some (Sl.ow (.obj C' ns' ds'))
theorem ObK.refl : ObK σ ρ σ ρ := fun i C ns ds h => ⟨rfl, C, ns, ds, h⟩
theorem ObK.trans (a : ObK σ ρ σ2 ρ2) (b : ObK σ2 ρ2 σ3 ρ3) : ObK σ ρ σ3 ρ3 := fun i C ns ds h => by
  obtain ⟨h1, C', ns', ds', h2⟩ := b i C ns ds h
  obtain ⟨h3, h4⟩ := a i C' ns' ds' h2
  exact ⟨h1.trans h3, h4⟩
/-- a slot is written with what is no own instance -/
theorem obk_set {i : Nat} {s : Sl} {o : Option V} (hs : ∀ C ns ds, s ≠ Sl.ow (.obj C ns ds)) : ObK σ ρ (σ.set i o) (ρ.set i s) := fun j C ns ds h => by
  have hj : i ≠ j := fun e => by
    subst e
    have hi : i < ρ.length := by
      have := (List.getElem?_eq_some_iff.mp h).1
      rwa [List.length_set] at this
    rw [List.getElem?_set_self hi] at h
    exact hs C ns ds (Option.some.inj h)
  rw [List.getElem?_set_ne hj] at h ⊢
  exact ⟨rfl, C, ns, ds, h⟩
theorem obk_same {i : Nat} {s : Sl} (hs : ∀ C ns ds, s = Sl.ow (.obj C ns ds) → ∃ C' ns' ds', ρ[i]? = some (Sl.ow (.obj C' ns' ds'))) : ObK σ ρ σ (ρ.set i s) := fun j C ns ds h => by
  by_cases hj : i = j
  · subst hj
    have hi : i < ρ.length := by
      have := (List.getElem?_eq_some_iff.mp h).1
      rwa [List.length_set] at this
    rw [List.getElem?_set_self hi] at h
    exact ⟨rfl, hs C ns ds (Option.some.inj h)⟩
  · rw [List.getElem?_set_ne hj] at h
    exact ⟨rfl, C, ns, ds, h⟩
/-- what a statement leaves as it is -/
structure FrS (σ : St) (ρ : Env) (G H : Hp) (σ2 : St) (ρ2 : Env) (G2 H2 : Hp) : Prop where
  g : Ex G G2
  h : ∀ a o, H a = some o → ¬ Own σ ρ a → H2 a = some o
  nw : ∀ a, H a ≠ none → G a = none → ¬ Own σ ρ a → G2 a = none
  ow : ∀ a, Own σ2 ρ2 a → Own σ ρ a ∨ H a = none
  ob : ObK σ ρ σ2 ρ2
/-- .. and a return -/
structure FrR (σ : St) (ρ : Env) (G H G2 H2 : Hp) : Prop where
  g : Ex G G2
  gh : Ex G2 H2
  h : ∀ a o, H a = some o → ¬ Own σ ρ a → H2 a = some o
  nw : ∀ a, H a ≠ none → G a = none → ¬ Own σ ρ a → G2 a = none
theorem FrS.refl : FrS σ ρ G H σ ρ G H := ⟨Ex.refl _, fun _ _ h _ => h, fun _ _ h _ => h, fun _ h => .inl h, .refl⟩
theorem FrS.trans (a : FrS σ ρ G H σ2 ρ2 G2 H2) (b : FrS σ2 ρ2 G2 H2 σ3 ρ3 G3 H3) : FrS σ ρ G H σ3 ρ3 G3 H3 := by
  have no : ∀ {c : Addr} {o : HO}, H c = some o → ¬ Own σ ρ c → ¬ Own σ2 ρ2 c := fun {c o} h n z => by
    rcases a.ow c z with q | q
    · exact n q
    · rw [h] at q; cases q
  refine ⟨a.g.trans b.g, fun c o h n => b.h c o (a.h c o h n) (no h n), fun c h1 h2 n => ?_, fun c z => ?_, a.ob.trans b.ob⟩
  · obtain ⟨o, ho⟩ := Option.ne_none_iff_exists'.mp h1
    exact b.nw c (by rw [a.h c o ho n]; exact fun z => by cases z) (a.nw c h1 h2 n) (no ho n)
  · rcases b.ow c z with q | q
    · exact a.ow c q
    · by_cases n : Own σ ρ c
      · exact .inl n
      · cases e : H c with
        | none => exact .inr rfl
        | some o => rw [a.h c o e n] at q; cases q
theorem FrS.transR (a : FrS σ ρ G H σ2 ρ2 G2 H2) (b : FrR σ2 ρ2 G2 H2 G3 H3) : FrR σ ρ G H G3 H3 := by
  have no : ∀ {c : Addr} {o : HO}, H c = some o → ¬ Own σ ρ c → ¬ Own σ2 ρ2 c := fun {c o} h n z => by
    rcases a.ow c z with q | q
    · exact n q
    · rw [h] at q; cases q
  refine ⟨a.g.trans b.g, b.gh, fun c o h n => b.h c o (a.h c o h n) (no h n), fun c h1 h2 n => ?_⟩
  obtain ⟨o, ho⟩ := Option.ne_none_iff_exists'.mp h1
  exact b.nw c (by rw [a.h c o ho n]; exact fun z => by cases z) (a.nw c h1 h2 n) (no ho n)
theorem FrS.of (f : Fr G H G2 H2) : FrS σ ρ G H σ ρ G2 H2 := ⟨f.g, fun a o h _ => f.h a o h, fun a h1 h2 _ => f.nw a h1 h2, fun _ h => .inl h, .refl⟩
theorem FrR.of (f : Fr G H G2 H2) : FrR σ ρ G H G2 H2 := ⟨f.g, f.gh, fun a o h _ => f.h a o h, fun a h1 h2 _ => f.nw a h1 h2⟩
theorem FrS.sub (hs : ∀ a, Own σ2 ρ2 a → Own σ ρ a) (ho : ObK σ ρ σ2 ρ2) : FrS σ ρ G H σ2 ρ2 G H := ⟨Ex.refl _, fun _ _ h _ => h, fun _ _ h _ => h, fun a h => .inl (hs a h), ho⟩
end
/-! ### statements -/
inductive Out where
  | nx (ρ : Env)
  | rt (d : D)
  | bk (ρ : Env)
  | ct (ρ : Env)
def EndOk (De : Ends) (σ : St) (ρ : Env) (G H : Hp) : Out → Prop
  | .nx ρ2 => ∀ σ2 G2 H2, EnvOk G2 H2 σ2 ρ2 → FrS σ ρ G H σ2 ρ2 G2 H2 → De.nx σ2 H2
  | .bk ρ2 => ∀ σ2 G2 H2, EnvOk G2 H2 σ2 ρ2 → FrS σ ρ G H σ2 ρ2 G2 H2 → De.bk σ2 H2
  | .ct ρ2 => ∀ σ2 G2 H2, EnvOk G2 H2 σ2 ρ2 → FrS σ ρ G H σ2 ρ2 G2 H2 → De.ct σ2 H2
  | .rt d => ∀ v G2 H2, FrR σ ρ G H G2 H2 → Rep G2 d v → De.rt v H2
def StS (t : TS) (Φ : Env → Option Out) : Prop := ∀ ρ o, Φ ρ = some o → ∀ (G H : Hp) (σ : St), EnvOk G H σ ρ → ∀ De : Ends, EndOk De σ ρ G H o → t De σ H
structure StD (X : Cx) (st : Stmt) (t : TS) (Φ : Env → Option Out) : Prop where
  ps : PS X st t
  ev : StS t Φ
structure SsD (X : Cx) (st : List Stmt) (t : TS) (Φ : Env → Option Out) : Prop where
  ps : PSs X st t
  ev : StS t Φ
def TgS (g : TG) (θ : D → Env → Option Env) : Prop := ∀ d ρ ρ2, θ d ρ = some ρ2 → ∀ (G H : Hp) (σ : St) (v : V), EnvOk G H σ ρ → Rep G d v → ∀ Q : St → Hp → Prop, (∀ σ2, EnvOk G H σ2 ρ2 → (∀ a, Own σ2 ρ2 a → Own σ ρ a) → ObK σ ρ σ2 ρ2 → Q σ2 H) → g v σ H Q
structure TgD (X : Cx) (tg : Expr) (g : TG) (θ : D → Env → Option Env) : Prop where
  pg : PG X tg g
  ev : TgS g θ
def TgsS (g : TGs) (θ : List D → Env → Option Env) : Prop := ∀ ds ρ ρ2, θ ds ρ = some ρ2 → ∀ (G H : Hp) (σ : St) (vs : List V), EnvOk G H σ ρ → Reps G ds vs → ∀ Q : St → Hp → Prop, (∀ σ2, EnvOk G H σ2 ρ2 → (∀ a, Own σ2 ρ2 a → Own σ ρ a) → ObK σ ρ σ2 ρ2 → Q σ2 H) → g vs σ H Q
structure TgsD (X : Cx) (tg : List Expr) (g : TGs) (θ : List D → Env → Option Env) : Prop where
  pg : PGs X tg g
  ev : TgsS g θ
section
variable {X : Cx} {e tg : Expr} {es : List Expr} {t : TE} {φ : Env → Option D} {ψ : Env → Option (List D)} {g : TG} {θ : D → Env → Option Env} {st : Stmt} {rest a b : List Stmt} {pos : Pos} {ts tu : TS} {Φ Ψ : Env → Option Out} {χ : Env → Option Bool} {tt : TT}
def setF (i : Nat) : D → Env → Option Env := fun d ρ => some (ρ.set i (Sl.pu d))
theorem tg_name {i : Nat} (h : PG X tg (gName i)) : TgD X tg (gName i) (setF i) := ⟨h, fun d ρ ρ2 e G H σ v x r Q k => by
  cases e
  exact k _ (x.setP r i) (fun a z => own_setP x.len z) (obk_set fun _ _ _ z => by cases z)⟩
def nilT : List D → Env → Option Env := fun ds ρ => match ds with
  | [] => some ρ
  | _ => none
def consT (θ : D → Env → Option Env) (τ : List D → Env → Option Env) : List D → Env → Option Env := fun ds ρ => match ds with
  | d :: r => (θ d ρ).bind (τ r)
  | _ => none
theorem tgs_nil : TgsD X [] gNil nilT := ⟨pgs_nil, fun ds ρ ρ2 e G H σ vs x r Q k => by
  unfold nilT at e
  split at e
  · cases e
    rw [r.un0]
    exact ⟨rfl, k σ x (fun _ z => z) .refl⟩
  · cases e⟩
theorem tgs_cons {gs : TGs} {τ : List D → Env → Option Env} (h : TgD X e g θ) (hr : TgsD X es gs τ) (hs : (assignEach (e :: es) X.env).map (·.2) = assign e X.env :: (assignEach es X.env).map (·.2) := by rfl) : TgsD X (e :: es) (gCons g gs) (consT θ τ) := ⟨pgs_cons h.pg hr.pg hs, fun ds ρ ρ2 e G H σ vs x r Q k => by
  unfold consT at e
  split at e
  · rename_i d r'
    obtain ⟨ρ1, e1, e2⟩ := Option.bind_eq_some_iff.mp e
    obtain ⟨u, us, rfl, q, tl⟩ := r.un
    refine ⟨u, us, rfl, h.ev d ρ ρ1 e1 G H σ u x q _ fun σ1 x1 s1 o1 => ?_⟩
    exact hr.ev r' ρ1 ρ2 e2 G H σ1 us x1 tl Q fun σ2 x2 s2 o2 => k σ2 x2 (fun c z => s1 c (s2 c z)) (o1.trans o2)
  · cases e⟩
def tupT (n : Nat) (τ : List D → Env → Option Env) : D → Env → Option Env := fun d ρ => match d with
  | .seq false ds => if ds.length = n then τ ds ρ else none
  | _ => none
theorem tg_tup {k : Nat} {n : Nat} {gs : TGs} {τ : List D → Env → Option Env} (hc : X.calm = true) (h : TgsD X es gs τ) (hn : (assignEach es X.env).length = n := by rfl) (hst : (assignEach es X.env).findIdx? (·.1) = none := by rfl) :
    TgD X (.Tuple es k pos) (gTup X.K n gs) (tupT n τ) := ⟨pg_tup hc h.pg hn hst, fun d ρ ρ2 e G H σ v x r Q k => by
  unfold tupT at e
  split at e
  · rename_i ds
    split at e
    · rename_i hl
      obtain ⟨a, us, rfl, h1, _, q⟩ := r.un_sq
      exact ⟨a, us, rfl, SqT.of (x.gh _ _ h1), by rw [q.len]; exact hl, h.ev ds ρ ρ2 e G H σ us x q Q k⟩
    · cases e
  · cases e⟩
/-! assignments -/
def asgF (φ : Env → Option D) (θ : D → Env → Option Env) : Env → Option Out := fun ρ => (φ ρ).bind fun d => (θ d ρ).map Out.nx
theorem asg_ev (he : PuS t φ) (hg : TgS g θ) : StS (tAsg t g) (asgF φ θ) := fun ρ o e G H σ x De k => by
  obtain ⟨d, e1, e2⟩ := Option.bind_eq_some_iff.mp e
  obtain ⟨ρ2, e3, rfl⟩ := Option.map_eq_some_iff.mp e2
  refine he ρ d e1 G H σ x _ fun v G1 H1 f1 r1 => ?_
  exact hg d ρ ρ2 e3 G1 H1 σ v (x.mono f1) r1 _ fun σ2 x2 s2 o2 => k σ2 G1 H1 x2 ((FrS.of f1).trans (FrS.sub s2 o2))
theorem sd_set {i : Nat} {x : Str} {pos' : Pos} (h : PuD X e t φ) (hp : PS X (.Assign [.Name x pos'] e pos) (tAsg t (gName i))) : StD X (.Assign [.Name x pos'] e pos) (tAsg t (gName i)) (asgF φ (setF i)) :=
  ⟨hp, asg_ev h.ev fun d ρ ρ2 e G H σ v x r Q k => by cases e; exact k _ (x.setP r i) (fun a z => own_setP x.len z) (obk_set fun _ _ _ z => by cases z)⟩
theorem sd_asg (h : PuD X e t φ) (hg : TgD X tg g θ) (hs : swapsWithSole [tg] e pos.line X.env = pure false := by rfl) (hw : swappedStores [tg] e X.env = pure none := by rfl)
    (h1 : (assignEach [tg] X.env).map (·.2) = [assign tg X.env] := by rfl) : StD X (.Assign [tg] e pos) (tAsg t g) (asgF φ θ) := ⟨ps_asg h.pe hg.pg hs hw h1, asg_ev h.ev hg.ev⟩
def asgO (i : Nat) (ψ : Env → Option (List D)) : Env → Option Out := fun ρ => (ψ ρ).map fun ds => .nx (ρ.set i (Sl.ow (.seq true ds)))
theorem own_free {G H : Hp} {σ : St} {ρ : Env} (x : EnvOk G H σ ρ) {p : Addr} (n : H p = none) : ¬ Own σ ρ p := fun ⟨i, ds, h1, h2⟩ => by
  obtain ⟨q, o, h3, h4, h5, _⟩ := x.ow i ds h1
  rw [h2] at h3
  cases h3
  rw [n] at h5
  cases h5
theorem sd_setO {i : Nat} {x : Str} {pos' : Pos} (h : OwD X e t ψ) (hp : PS X (.Assign [.Name x pos'] e pos) (tAsg t (gName i))) : StD X (.Assign [.Name x pos'] e pos) (tAsg t (gName i)) (asgO i ψ) := ⟨hp, fun ρ o e G H σ x De k => by
  obtain ⟨ds, e1, rfl⟩ := Option.map_eq_some_iff.mp e
  refine h.ev ρ ds e1 G H σ x _ fun p us G1 H1 f1 n1 n2 hp hl r => ?_
  have x1 := x.mono f1
  refine k _ G1 H1 (x1.setO i n2 hp ⟨us, rfl, hl, r⟩ fun j es _ h1 h2 => own_free x n1 ⟨j, es, h1, h2⟩) ⟨f1.g, fun a o h _ => f1.h a o h, fun a h1 h2 _ => f1.nw a h1 h2, fun a z => ?_, obk_set fun _ _ _ z => by cases z⟩
  rcases own_setO x.len z with q | q
  · exact .inl q
  · rw [q]; exact .inr n1⟩
/-! sequences -/
def seqF (Φ Ψ : Env → Option Out) : Env → Option Out := fun ρ => (Φ ρ).bind fun o => match o with
  | .nx ρ2 => Ψ ρ2
  | o => some o
theorem seq_ev (h1 : StS ts Φ) (h2 : StS tu Ψ) : StS (tSeq ts tu) (seqF Φ Ψ) := fun ρ o e G H σ x De k => by
  obtain ⟨o1, e1, e2⟩ := Option.bind_eq_some_iff.mp e
  refine h1 ρ o1 e1 G H σ x _ ?_
  cases o1 with
  | nx ρ2 =>
    intro σ2 G2 H2 x2 f2
    refine h2 ρ2 o e2 G2 H2 σ2 x2 De ?_
    cases o with
    | nx ρ3 => exact fun σ3 G3 H3 x3 f3 => k σ3 G3 H3 x3 (f2.trans f3)
    | bk ρ3 => exact fun σ3 G3 H3 x3 f3 => k σ3 G3 H3 x3 (f2.trans f3)
    | ct ρ3 => exact fun σ3 G3 H3 x3 f3 => k σ3 G3 H3 x3 (f2.trans f3)
    | rt d => exact fun v G3 H3 f3 r3 => k v G3 H3 (f2.transR f3) r3
  | rt d => cases e2; exact k
  | bk ρ2 => cases e2; exact k
  | ct ρ2 => cases e2; exact k
theorem ss_nil : SsD X [] tNext (fun ρ => some (.nx ρ)) := ⟨pss_nil, fun ρ o e G H σ x De k => by cases e; exact k σ G H x .refl⟩
theorem ss_one (h : StD X st ts Φ) : SsD X [st] ts Φ := ⟨pss_one h.ps, h.ev⟩
theorem ss_cons (h : StD X st ts Φ) (hr : SsD X rest tu Ψ) : SsD X (st :: rest) (tSeq ts tu) (seqF Φ Ψ) := ⟨pss_cons h.ps hr.ps, seq_ev h.ev hr.ev⟩
/-- what is never come to -/
theorem ss_never : SsD X rest tNever (fun _ => none) := ⟨⟨fun _ _ _ _ _ _ h => False.elim h⟩, fun ρ o e => by cases e⟩
theorem sd_never : StD X st tNever (fun _ => none) := ⟨⟨fun _ _ _ _ _ _ h => False.elim h⟩, fun ρ o e => by cases e⟩
theorem pu_never : PuD X e (fun _ _ _ => False) (fun _ => none) := ⟨⟨fun _ _ _ _ _ _ h => h.elim⟩, fun ρ o e => by cases e⟩
theorem te_never : TeD X e (fun _ _ _ => False) (fun _ => none) := ⟨⟨fun _ _ _ _ _ _ h => h.elim⟩, fun ρ o e => by cases e⟩
/-! return, if, calls alone -/
def retF (φ : Env → Option D) : Env → Option Out := fun ρ => (φ ρ).map Out.rt
theorem sd_ret (h : PuD X e t φ) : StD X (.Return (some e) pos) (tRet t) (retF φ) := ⟨ps_ret h.pe, fun ρ o e G H σ x De k => by
  obtain ⟨d, e1, rfl⟩ := Option.map_eq_some_iff.mp e
  exact h.ev ρ d e1 G H σ x _ fun v G1 H1 f1 r1 => k v G1 H1 (FrR.of f1) r1⟩
/-- an own list is handed back -/
def retO (i : Nat) : Env → Option Out := fun ρ => match ρ[i]? with
  | some (.ow d) => some (.rt d)
  | some (.pu d) => some (.rt d)
  | _ => none
theorem sd_retO {i : Nat} {x : Str} {p : Pos} (h : PE X (.Name x p) (tVar i)) : StD X (.Return (some (.Name x p)) pos) (tRet (tVar i)) (retO i) := ⟨ps_ret h, fun ρ o e G H σ x De k => by
  unfold retO at e
  split at e
  · rename_i ds h1
    cases e
    obtain ⟨p, ob, h2, h3, h4, h5⟩ := x.ow i ds h1
    refine ⟨_, h2, k _ (upd G p ob) H ⟨Ex.new h3, fun a o z => ?_, fun a o z _ => z, fun a z1 z2 z3 => ?_⟩ (h5.rep (Ex.new h3) upd_same)⟩
    · by_cases q : a = p
      · rw [q, upd_same] at z; cases z; rw [q]; exact h4
      · rw [upd_ne q] at z; exact x.gh _ _ z
    · have : a ≠ p := fun q => z3 ⟨i, ds, h1, q ▸ h2⟩
      rw [upd_ne this]; exact z2
  · rename_i d h1
    cases e
    obtain ⟨v, h2, h3⟩ := x.pu i d h1
    exact ⟨_, h2, k v G H (FrR.of (.refl x.gh)) h3⟩
  · cases e⟩
def ifS (χ : Env → Option Bool) (Φ Ψ : Env → Option Out) : Env → Option Out := fun ρ => (χ ρ).bind fun b => if b = true then Φ ρ else Ψ ρ
theorem endOk_fr {De : Ends} {σ : St} {ρ : Env} {G H G1 H1 : Hp} (f : Fr G H G1 H1) {o : Out} (k : EndOk De σ ρ G H o) : EndOk De σ ρ G1 H1 o := by
  cases o with
  | nx ρ3 => exact fun σ3 G3 H3 x3 f3 => k σ3 G3 H3 x3 ((FrS.of f).trans f3)
  | bk ρ3 => exact fun σ3 G3 H3 x3 f3 => k σ3 G3 H3 x3 ((FrS.of f).trans f3)
  | ct ρ3 => exact fun σ3 G3 H3 x3 f3 => k σ3 G3 H3 x3 ((FrS.of f).trans f3)
  | rt d => exact fun v G3 H3 f3 r3 => k v G3 H3 ((FrS.of f).transR f3) r3
theorem sd_if {c : Expr} (h : TeD X c tt χ) (ha : SsD X a ts Φ) (hb : SsD X b tu Ψ) : StD X (.If c a b pos) (tIfS tt ts tu) (ifS χ Φ Ψ) := ⟨ps_if h.pt ha.ps hb.ps, fun ρ o e G H σ x De k => by
  obtain ⟨c1, e1, e2⟩ := Option.bind_eq_some_iff.mp e
  refine h.ev ρ c1 e1 G H σ x _ fun G1 H1 f1 => ?_
  cases c1 with
  | true => exact ha.ev ρ o e2 G1 H1 σ (x.mono f1) De (endOk_fr f1 k)
  | false => exact hb.ev ρ o e2 G1 H1 σ (x.mono f1) De (endOk_fr f1 k)⟩
theorem sd_drop (h : PuD X e t φ) (hs : swapsWith e none pos.line X.env = pure false := by rfl) : StD X (.Expr e pos) (tDrop t) (fun ρ => (φ ρ).map fun _ => .nx ρ) := ⟨ps_expr h.pe hs, fun ρ o e G H σ x De k => by
  obtain ⟨d, e1, rfl⟩ := Option.map_eq_some_iff.mp e
  exact h.ev ρ d e1 G H σ x _ fun v G1 H1 f1 r1 => k σ G1 H1 (x.mono f1) (FrS.of f1)⟩
/-! an own thing is written to -/
theorem grow_ok {G H : Hp} {σ : St} {ρ : Env} (x : EnvOk G H σ ρ) {i : Nat} {xs ys : D} {p : Addr} {ob : HO} (hk : ∀ C ns ds, ys = .obj C ns ds → ∃ C' ns' ds', xs = .obj C' ns' ds') (h1 : ρ[i]? = some (Sl.ow xs)) (h2 : σ[i]? = some (some (V.ref p))) (r : Top G ys ob) :
    EnvOk G (upd H p ob) σ (ρ.set i (Sl.ow ys)) ∧ FrS σ ρ G H σ (ρ.set i (Sl.ow ys)) G (upd H p ob) := by
  have hi : i < ρ.length := (List.getElem?_eq_some_iff.mp h1).1
  obtain ⟨p', o', h3, h4, h5, h6⟩ := x.ow i xs h1
  rw [h2] at h3
  cases h3
  have op : Own σ ρ p := ⟨i, xs, h1, h2⟩
  have oth : ∀ {j : Nat} {s : Sl}, i ≠ j → (ρ.set i (Sl.ow ys))[j]? = some s → ρ[j]? = some s := fun {j s} n e => by rwa [List.getElem?_set_ne n] at e
  refine ⟨⟨fun a o z => ?_, by rw [List.length_set]; exact x.len, fun j e h => ?_, fun j es h => ?_, fun j k es fs q a1 a2 a3 a4 => ?_⟩, ⟨Ex.refl _, fun a o z n => ?_, fun _ _ z _ => z, fun a z => ?_, obk_same fun C ns ds e => ?_⟩⟩
  · have : a ≠ p := fun q => by rw [q, h4] at z; cases z
    rw [upd_ne this]; exact x.gh _ _ z
  · by_cases n : i = j
    · subst n; rw [List.getElem?_set_self hi] at h; cases h
    · exact x.pu j e (oth n h)
  · by_cases n : i = j
    · subst n
      rw [List.getElem?_set_self hi] at h
      cases h
      exact ⟨p, ob, h2, h4, upd_same, r⟩
    · obtain ⟨q, o2, b1, b2, b3, b4⟩ := x.ow j es (oth n h)
      have : q ≠ p := fun e => n (x.inj i j xs es p h1 (oth n h) h2 (e ▸ b1))
      exact ⟨q, o2, b1, b2, by rw [upd_ne this]; exact b3, b4⟩
  · have un : ∀ {j : Nat} {es : D}, (ρ.set i (Sl.ow ys))[j]? = some (Sl.ow es) → ∃ fs, ρ[j]? = some (Sl.ow fs) := fun {j es} h => by
      by_cases n : i = j
      · subst n; exact ⟨xs, h1⟩
      · exact ⟨es, oth n h⟩
    obtain ⟨e1, a1⟩ := un a1
    obtain ⟨e2, a2⟩ := un a2
    exact x.inj j k e1 e2 q a1 a2 a3 a4
  · have : a ≠ p := fun q => n (q ▸ op)
    rw [upd_ne this]; exact z
  · obtain ⟨j, es, a1, a2⟩ := z
    by_cases n : i = j
    · subst n; exact .inl ⟨i, xs, h1, a2⟩
    · exact .inl ⟨j, es, oth n a1, a2⟩
  · obtain ⟨C', ns', ds', e2⟩ := hk C ns ds (by injection e)
    exact ⟨C', ns', ds', by rw [h1, e2]⟩
def growF {β : Type} (i : Nat) (φ : Env → Option β) (op : List D → β → List D) : Env → Option Out := fun ρ => match ρ[i]? with
  | some (.ow (.seq true xs)) => (φ ρ).bind fun d => if (op xs d).length ≤ Lim then some (.nx (ρ.set i (Sl.ow (.seq true (op xs d))))) else none
  | _ => none
theorem sd_app {i : Nat} {o : Expr} {apos cpos : Pos} (h : PuD X e t φ) (hp : PS X (.Expr (.Call (.Attribute o "append" apos) [e] [] cpos) pos) (tDrop (tBM X.K "list" rAppend (tVar i) (tCons t tNil)))) :
    StD X (.Expr (.Call (.Attribute o "append" apos) [e] [] cpos) pos) (tDrop (tBM X.K "list" rAppend (tVar i) (tCons t tNil))) (growF i φ fun xs d => xs ++ [d]) := ⟨hp, fun ρ o e G H σ x De k => by
  unfold growF at e
  split at e
  · rename_i xs h1
    obtain ⟨d, e1, e2⟩ := Option.bind_eq_some_iff.mp e
    split at e2
    · rename_i hl
      cases e2
      obtain ⟨p, ob, h2, h3, h4, us, rfl, h5, h6⟩ := x.ow i _ h1
      refine ⟨_, h2, .inl ⟨rfl, _, SqL.of h4⟩, h.ev ρ d e1 G H σ x _ fun v G1 H1 f1 r1 => ?_⟩
      have g := grow_ok (x.mono f1) (fun _ _ _ z => by cases z) (ys := .seq true (xs ++ [d])) (ob := .lst (us ++ [v])) h1 h2 ⟨_, rfl, hl, (h6.mono f1.g).app (.cons r1 .nil)⟩
      refine ⟨p, us, v, rfl, rfl, f1.h _ _ h4, ?_, k σ G1 _ g.1 ((FrS.of f1).trans g.2)⟩
      have : us.length ≤ Lim := by rw [h6.len]; exact h5
      rw [sizeLine_eq]; have : Lim = 5000 := rfl; omega
    · cases e2
  · cases e⟩
def extArg (φ : Env → Option D) : Env → Option (List D) := fun ρ => (φ ρ).bind fun d => match d with
  | .seq true ds => some ds
  | _ => none
theorem sd_ext {i : Nat} {o : Expr} {apos cpos : Pos} (h : PuD X e t φ) (hp : PS X (.Expr (.Call (.Attribute o "extend" apos) [e] [] cpos) pos) (tDrop (tBM X.K "list" rExtend (tVar i) (tCons t tNil)))) :
    StD X (.Expr (.Call (.Attribute o "extend" apos) [e] [] cpos) pos) (tDrop (tBM X.K "list" rExtend (tVar i) (tCons t tNil))) (growF i (extArg φ) fun xs ds => xs ++ ds) := ⟨hp, fun ρ o e G H σ x De k => by
  unfold growF at e
  split at e
  · rename_i xs h1
    obtain ⟨ds, e1, e2⟩ := Option.bind_eq_some_iff.mp e
    obtain ⟨d, e3, e6⟩ := Option.bind_eq_some_iff.mp e1
    split at e6
    · cases e6
      split at e2
      · rename_i hl
        cases e2
        obtain ⟨p, ob, h2, h3, h4, us, rfl, h5, h6⟩ := x.ow i _ h1
        refine ⟨_, h2, .inl ⟨rfl, _, SqL.of h4⟩, h.ev ρ _ e3 G H σ x _ fun v G1 H1 f1 r1 => ?_⟩
        obtain ⟨q, ws, rfl, q1, q2, q3⟩ := r1.un_sq
        have g := grow_ok (x.mono f1) (fun _ _ _ z => by cases z) (ys := .seq true (xs ++ ds)) (ob := .lst (us ++ ws)) h1 h2 ⟨_, rfl, hl, (h6.mono f1.g).app q3⟩
        refine ⟨p, q, us, ws, rfl, rfl, f1.h _ _ h4, f1.gh _ _ q1, ?_, k σ G1 _ g.1 ((FrS.of f1).trans g.2)⟩
        have h7 : us.length ≤ Lim := by rw [h6.len]; exact h5
        have h8 : ws.length ≤ Lim := by rw [q3.len]; exact q2
        exact lim_line (by omega)
      · cases e2
    · cases e6
  · cases e⟩
/-! ### what is walked -/
def ItS (wi : TI) (ψ : Env → Option (List D)) : Prop := ∀ ρ ds, ψ ρ = some ds → ∀ (G H : Hp) (σ : St), EnvOk G H σ ρ → ∀ R : It → Hp → Prop,
  (∀ J G2 H2 (Γ : Hp → Prop) Y, Fr G H G2 H2 → Walk J ds.length Γ Y → (∀ H', Ex G2 H' → Γ H') →
    (∀ i H' x H'' G', i < ds.length → Ex G2 G' → Ex G' H' → Y i H' x H'' → ∃ d G'', ds[i]? = some d ∧ Fr G' H' G'' H'' ∧ Rep G'' d x) → R J H2) → wi σ H R
structure ItD (X : Cx) (tg e : Expr) (wi : TI) (ψ : Env → Option (List D)) : Prop where
  pi : PI X tg e wi
  ev : ItS wi ψ
theorem PI.or {tg e : Expr} {w1 w2 : TI} (h1 : PI X tg e w1) (h2 : PI X tg e w2) : PI X tg e (fun σ H R => w1 σ H R ∨ w2 σ H R) := ⟨fun pins s σ H R I h => h.elim (h1.run pins s σ H R I) (h2.run pins s σ H R I)⟩
def seqsF (φ : Env → Option D) : Env → Option (List D) := fun ρ => (φ ρ).bind fun d => match d with
  | .seq _ ds => some ds
  | _ => none
theorem seqsF_un {ρ : Env} {ds : List D} (h : seqsF φ ρ = some ds) : ∃ b, φ ρ = some (.seq b ds) := by
  obtain ⟨d, h1, h2⟩ := Option.bind_eq_some_iff.mp h
  split at h2
  · cases h2; exact ⟨_, h1⟩
  · cases h2
theorem yat_ok {us : List V} {ds : List D} {G2 : Hp} (r : Reps G2 ds us) : ∀ i H' x H'' G', i < ds.length → Ex G2 G' → Ex G' H' → YAt us i H' x H'' → ∃ d G'', ds[i]? = some d ∧ Fr G' H' G'' H'' ∧ Rep G'' d x := fun i H' x H'' G' hi g gh ⟨e, h⟩ => by
  subst e
  obtain ⟨d, h1, h2⟩ := r.getV h
  exact ⟨d, G', h1, .refl gh, h2.mono g⟩
/-- for x in a list, a tuple -/
theorem it_seq (h : PuD X e t φ) : ItD X tg e (fun σ H R => iList X.K t σ H R ∨ iTup X.K t σ H R) (seqsF φ) := ⟨PI.or (pi_list h.pe) (pi_tup h.pe), fun ρ ds ee G H σ x R k => by
  obtain ⟨b, e1⟩ := seqsF_un ee
  cases b with
  | true =>
    refine .inl (h.ev ρ _ e1 G H σ x _ fun v G1 H1 f1 r1 => ?_)
    obtain ⟨a, us, rfl, h1, h2, h3⟩ := r1.un_sq
    refine ⟨a, rfl, ⟨us, SqL.of (f1.gh _ _ h1)⟩, k _ G1 H1 (fun H => SqL X.K H a us) _ f1 (by rw [← h3.len]; exact walk_list) (fun H' g => SqL.of (g _ _ h1)) (yat_ok h3)⟩
  | false =>
    refine .inr (h.ev ρ _ e1 G H σ x _ fun v G1 H1 f1 r1 => ?_)
    obtain ⟨a, us, rfl, h1, h2, h3⟩ := r1.un_sq
    refine ⟨a, rfl, ⟨us, SqT.of (f1.gh _ _ h1)⟩, k _ G1 H1 (fun H => SqT X.K H a us) _ f1 (by rw [← h3.len]; exact walk_tup) (fun H' g => SqT.of (g _ _ h1)) (yat_ok h3)⟩⟩
/-- for c in a text -/
def signs (z : Str) : List D := z.cps.toList.map fun c => .leaf (.str ⟨#[c]⟩)
def strsF (φ : Env → Option D) : Env → Option (List D) := fun ρ => (φ ρ).bind fun d => match d with
  | .leaf (.str z) => some (signs z)
  | _ => none
theorem it_str (h : PuD X e t φ) : ItD X tg e (iStr t) (strsF φ) := ⟨pi_str h.pe, fun ρ ds ee G H σ x R k => by
  obtain ⟨d, e1, e2⟩ := Option.bind_eq_some_iff.mp ee
  split at e2
  · rename_i z
    cases e2
    refine h.ev ρ _ e1 G H σ x _ fun v G1 H1 f1 r1 => ?_
    obtain ⟨rfl, _⟩ := r1.un_lf
    have hl : (signs z).length = z.cps.size := by unfold signs; rw [List.length_map, Array.length_toList]
    refine ⟨z, rfl, k _ G1 H1 (fun _ => True) _ f1 (by rw [hl]; exact walk_str) (fun _ _ => trivial) fun i H' y H'' G' hi g gh yy => ?_⟩
    obtain ⟨e3, c, hc, rfl⟩ := yy
    subst e3
    refine ⟨.leaf (.str ⟨#[c]⟩), G', ?_, .refl gh, .lf rfl⟩
    unfold signs
    rw [List.getElem?_map, Array.getElem?_toList, hc]
    rfl
  · cases e2⟩
/-- range(n) -/
def rangeL (n : Int) : List D := (List.range n.toNat).map fun i => .leaf (.int (i : Nat))
def rngF (φ : Env → Option D) : Env → Option (List D) := fun ρ => (φ ρ).bind fun d => match d with
  | .leaf (.int n) => if n ≤ 1000 ∧ -1000 ≤ n then some (rangeL n) else none
  | _ => none
theorem it_rng {p : Pos} (h : PuD X e t φ) (hg : Gl X "range") (hm : X.mg "range" = none) (hs : starEach [e] X.env = [(false, eval e X.env)] := by rfl) : ItD X tg (.Call (.Name "range" p) [e] [] pos) (iRng1 (tCons t tNil)) (rngF φ) := ⟨pi_range1 hg hm (pa_cons h.pe pa_nil hs) hs, fun ρ ds ee G H σ x R k => by
  obtain ⟨d, e1, e2⟩ := Option.bind_eq_some_iff.mp ee
  split at e2
  · rename_i n
    split at e2
    · rename_i hn
      cases e2
      refine h.ev ρ _ e1 G H σ x _ fun v G1 H1 f1 r1 => ?_
      obtain ⟨rfl, _⟩ := r1.un_lf
      have hl : (rangeL n).length = n.toNat := by unfold rangeL; rw [List.length_map, List.length_range]
      refine ⟨n, rfl, by omega, by omega, k _ G1 H1 (fun _ => True) _ f1 (by rw [hl]; exact walk_range) (fun _ _ => trivial) fun i H' y H'' G' hi g gh yy => ?_⟩
      obtain ⟨e3, rfl⟩ := yy
      subst e3
      rw [hl] at hi
      refine ⟨.leaf (.int (i : Nat)), G', ?_, .refl gh, by show Rep G' (D.leaf (V.int (i : Nat))) (V.int (0 + (i : Nat))); rw [Int.zero_add]; exact .lf rfl⟩
      unfold rangeL
      rw [List.getElem?_map, List.getElem?_range hi]
      rfl
    · cases e2
  · cases e2⟩
theorem ypair_ok {f g : Nat → Option V} {ds : List D} {n : Nat} {G2 : Hp} (hf : ∀ (i : Nat) (x y : V), i < n → f i = some x → g i = some y → ∃ d1 d2, ds[i]? = some (.seq false [d1, d2]) ∧ Rep G2 d1 x ∧ Rep G2 d2 y) :
    ∀ i H' x H'' G', i < n → Ex G2 G' → Ex G' H' → YPair f g i H' x H'' → ∃ d G'', ds[i]? = some d ∧ Fr G' H' G'' H'' ∧ Rep G'' d x := fun i H' x H'' G' hi e gh yy => by
  obtain ⟨T, a, b, rfl, nT, rfl, h1, h2⟩ := yy
  obtain ⟨d1, d2, h3, h4, h5⟩ := hf i a b hi h1 h2
  have n2 := gh.back nT
  exact ⟨_, upd G' T (.tup [a, b]), h3, .new gh nT, .sq (b := false) upd_same (by show 2 ≤ Lim; decide) (.cons (h4.mono (e.trans (Ex.new n2))) (.cons (h5.mono (e.trans (Ex.new n2))) .nil))⟩
/-- enumerate(..) -/
def enumL : Nat → List D → List D
  | _, [] => []
  | i, d :: r => .seq false [.leaf (.int (i : Nat)), d] :: enumL (i + 1) r
theorem enum_get : ∀ {ds : List D} {j i : Nat} {d : D}, ds[i]? = some d → (enumL j ds)[i]? = some (.seq false [.leaf (.int ((j + i : Nat) : Int)), d])
  | [], j, i, d, h => by simp at h
  | d0 :: r, j, 0, d, h => by cases h; rfl
  | d0 :: r, j, i + 1, d, h => by
    have := enum_get (j := j + 1) (i := i) (d := d) (by simpa using h)
    rw [show j + (i + 1) = j + 1 + i by omega]
    simpa [enumL] using this
theorem enum_len : ∀ (ds : List D) (j : Nat), (enumL j ds).length = ds.length
  | [], _ => rfl
  | d :: r, j => by rw [enumL, List.length_cons, List.length_cons, enum_len r]
theorem it_enum {p tpos : Pos} {elts : List Expr} {kk : Nat} (h : PuD X e t φ) (hg : Gl X "enumerate") (hm : X.mg "enumerate" = none) (hs : starEach [e] X.env = [(false, eval e X.env)] := by rfl) :
    ItD X (.Tuple elts kk tpos) (.Call (.Name "enumerate" p) [e] [] pos) (fun σ H R => iEnum X.K (tCons t tNil) σ H R ∨ L2.Vy.iEnT X.K (tCons t tNil) σ H R) (fun ρ => (seqsF φ ρ).map (enumL 0)) :=
  ⟨PI.or (pi_enum hg hm (pa_cons h.pe pa_nil hs) hs) (L2.Vy.pi_enT hg hm (pa_cons h.pe pa_nil hs) hs), fun ρ ds ee G H σ x R k => by
  obtain ⟨es, e1, rfl⟩ := Option.map_eq_some_iff.mp ee
  obtain ⟨b, e2⟩ := seqsF_un e1
  have fin : ∀ {G1 : Hp} {us : List V}, Reps G1 es us → ∀ (i : Nat) (x y : V), i < (enumL 0 es).length → (some (V.int (i : Nat)) : Option V) = some x → us[i]? = some y → ∃ d1 d2, (enumL 0 es)[i]? = some (.seq false [d1, d2]) ∧ Rep G1 d1 x ∧ Rep G1 d2 y := fun {G1 us} r i x y hi h1 h2 => by
    cases h1
    obtain ⟨d, h3, h4⟩ := r.getV h2
    have := enum_get (j := 0) h3
    rw [Nat.zero_add] at this
    exact ⟨_, _, this, .lf rfl, h4⟩
  cases b with
  | true =>
    refine .inl (h.ev ρ _ e2 G H σ x _ fun v G1 H1 f1 r1 => ?_)
    obtain ⟨a, us, rfl, h1, h2, h3⟩ := r1.un_sq
    exact ⟨a, us, rfl, SqL.of (f1.gh _ _ h1), k _ G1 H1 (fun H => SqL X.K H a us) _ f1 (by rw [enum_len, ← h3.len]; exact walk_enum) (fun H' g => SqL.of (g _ _ h1)) (ypair_ok (fin h3))⟩
  | false =>
    refine .inr (h.ev ρ _ e2 G H σ x _ fun v G1 H1 f1 r1 => ?_)
    obtain ⟨a, us, rfl, h1, h2, h3⟩ := r1.un_sq
    exact ⟨a, us, rfl, SqT.of (f1.gh _ _ h1), k _ G1 H1 (fun H => SqT X.K H a us) _ f1 (by rw [enum_len, ← h3.len]; exact L2.Vy.walk_enT) (fun H' g => SqT.of (g _ _ h1)) (ypair_ok (fin h3))⟩⟩
end
end L2.Tr

/-! Trees: for, comprehensions, zip, defs and their calls. -/
namespace L2.Tr
open PySem PySem.Spec PyProof.Rows
section
variable {X : Cx} {e e2 tg : Expr} {es : List Expr} {t ta tb te : TE} {φ φa φb : Env → Option D} {ψ : Env → Option (List D)} {g : TG} {θ : D → Env → Option Env} {pos : Pos} {tu : TS} {Φ : Env → Option Out} {χ : Env → Option Bool} {tt : TT} {wi : TI}
/-! zip of two lists, of two tuples -/
def zipL (xs ys : List D) : List D := (xs.zip ys).map fun p => .seq false [p.1, p.2]
theorem zip_len {xs ys : List D} : (zipL xs ys).length = min xs.length ys.length := by unfold zipL; rw [List.length_map, List.length_zip]
theorem walk_zipTT {K : PySem.W.Frag} {a b : Addr} {xs ys : List V} : Walk (RZ.ItzT K a b) (min xs.length ys.length) (fun H => SqT K H a xs ∧ SqT K H b ys) (YPair (fun i => xs[i]?) (fun i => ys[i]?)) := by
  refine ⟨fun i _ hi q => ?_, fun _ q => ⟨xs, ys, q.1, q.2, by omega⟩, fun i H v H' _ q y => ?_⟩
  · exact ⟨xs, ys, xs[i]'(by omega), ys[i]'(by omega), q.1, q.2, List.getElem?_eq_getElem _, List.getElem?_eq_getElem _⟩
  · obtain ⟨T, x, z, z1, z2, z3, z4, z5⟩ := y
    exact ⟨T, x, z, z1, z2, z3, z4 xs q.1, z5 ys q.2⟩
def zipF (φa φb : Env → Option D) : Env → Option (List D) := bin2 (fun x y => match x, y with
  | .seq b xs, .seq c ys => if b = c then some (zipL xs ys) else none
  | _, _ => none) φa φb
theorem zip_get {G : Hp} {xs ys : List D} {us ws : List V} (r1 : Reps G xs us) (r2 : Reps G ys ws) (i : Nat) (x y : V) (h1 : us[i]? = some x) (h2 : ws[i]? = some y) : ∃ d1 d2, (zipL xs ys)[i]? = some (.seq false [d1, d2]) ∧ Rep G d1 x ∧ Rep G d2 y := by
  obtain ⟨d1, a1, a2⟩ := r1.getV h1
  obtain ⟨d2, b1, b2⟩ := r2.getV h2
  refine ⟨d1, d2, ?_, a2, b2⟩
  unfold zipL
  rw [List.getElem?_map, (List.getElem?_zip_eq_some (z := (d1, d2))).mpr ⟨a1, b1⟩]
  rfl
theorem it_zip {p tpos : Pos} {elts : List Expr} {kk : Nat} (ha : PuD X e ta φa) (hb : PuD X e2 tb φb) (hg : Gl X "zip") (hm : X.mg "zip" = none)
    (hs1 : starEach [e2] X.env = (false, eval e2 X.env) :: starEach [] X.env := by rfl) (hs : starEach [e, e2] X.env = (false, eval e X.env) :: starEach [e2] X.env := by rfl) (hpl : (backTo pos (starEach [e2] X.env)).any (·.1) = false := by rfl) :
    ItD X (.Tuple elts kk tpos) (.Call (.Name "zip" p) [e, e2] [] pos) (RZ.iZipA X.K (tCons ta (tCons tb tNil))) (zipF φa φb) := ⟨RZ.pi_zipA hg hm (pa_cons ha.pe (pa_cons hb.pe pa_nil hs1) hs) hs hpl, fun ρ ds ee G H σ x R k => by
  obtain ⟨d1, d2, e1, e2, e3⟩ := bin2_un ee
  split at e3
  · rename_i b xs c ys
    split at e3
    · rename_i hbc
      subst hbc
      cases e3
      refine ha.ev ρ _ e1 G H σ x _ fun v G1 H1 f1 r1 => ?_
      refine hb.ev ρ _ e2 G1 H1 σ (x.mono f1) _ fun v2 G2 H2 f2 r2 => ?_
      obtain ⟨a1, us, rfl, h1, l1, q1⟩ := (r1.mono f2.g).un_sq
      obtain ⟨a2, ws, rfl, h2, l2, q2⟩ := r2.un_sq
      refine ⟨a1, a2, us, ws, rfl, ?_⟩
      cases b with
      | true => exact .inl ⟨SqL.of (f2.gh _ _ h1), SqL.of (f2.gh _ _ h2), k _ G2 H2 (fun H => SqL X.K H a1 us ∧ SqL X.K H a2 ws) _ (f1.trans f2) (walk_zip (by rw [zip_len, q1.len, q2.len])) (fun H' g => ⟨SqL.of (g _ _ h1), SqL.of (g _ _ h2)⟩) (ypair_ok fun i x y _ z1 z2 => zip_get q1 q2 i x y z1 z2)⟩
      | false => exact .inr ⟨SqT.of (f2.gh _ _ h1), SqT.of (f2.gh _ _ h2), k _ G2 H2 (fun H => SqT X.K H a1 us ∧ SqT X.K H a2 ws) _ (f1.trans f2) (by rw [zip_len, ← q1.len, ← q2.len]; exact walk_zipTT) (fun H' g => ⟨SqT.of (g _ _ h1), SqT.of (g _ _ h2)⟩) (ypair_ok fun i x y _ z1 z2 => zip_get q1 q2 i x y z1 z2)⟩
    · cases e3
  · cases e3⟩
/-! for -/
def loopF (θ : D → Env → Option Env) (Φ : Env → Option Out) : List D → Env → Option Out
  | [], ρ => some (.nx ρ)
  | d :: ds, ρ => (θ d ρ).bind fun ρ1 => (Φ ρ1).bind fun o => match o with
    | .nx ρ2 => loopF θ Φ ds ρ2
    | .ct ρ2 => loopF θ Φ ds ρ2
    | .bk ρ2 => some (.nx ρ2)
    | .rt d => some (.rt d)
def forF (ψ : Env → Option (List D)) (θ : D → Env → Option Env) (Φ : Env → Option Out) : Env → Option Out := fun ρ => (ψ ρ).bind fun ds => loopF θ Φ ds ρ
theorem sd_for {body : List Stmt} (hp : PassesOwn (model X.prog X.w) X.A X.env X.xe) (hc : X.calm = true) (hi : ItD X tg e wi ψ) (hg : TgD X tg g θ) (hb : SsD X body tu Φ) (hs : ∀ x, foldedSetIterable e X.env x = pure x := by intro _; rfl) :
    StD X (.For tg e body [] pos) (tFor wi g tu) (forF ψ θ Φ) := ⟨ps_for hp hc hi.pi hg.pg hb.ps hs, fun ρ o ee G H σ x De k => by
  obtain ⟨ds, e1, e2⟩ := Option.bind_eq_some_iff.mp ee
  refine hi.ev ρ ds e1 G H σ x _ fun J G1 H1 Γ Y f1 wk hΓ hY => ?_
  have x1 := x.mono f1
  refine for_it wk (fun i σ' H' => ∃ G' ρ', Ex G1 G' ∧ EnvOk G' H' σ' ρ' ∧ FrS σ ρ G1 H1 σ' ρ' G' H' ∧ loopF θ Φ (ds.drop i) ρ' = some o) ⟨G1, ρ, Ex.refl _, x1, .refl, by rw [List.drop_zero]; exact e2⟩
    (fun i σ' H' _ ⟨G', ρ', g', x', _, _⟩ => hΓ H' (g'.trans x'.gh)) ?_ ?_
  · rintro i y σ' H' H'' hi' ⟨G', ρ', g', x', f', l'⟩ yy
    obtain ⟨d, G'', h1, f2, r2⟩ := hY i H' y H'' G' hi' g' x'.gh yy
    have hd : ds.drop i = d :: ds.drop (i + 1) := by
      rw [List.drop_eq_getElem_cons hi']
      congr 1
      rw [List.getElem?_eq_getElem hi'] at h1
      exact Option.some.inj h1
    rw [hd] at l'
    unfold loopF at l'
    obtain ⟨ρ1, e3, e4⟩ := Option.bind_eq_some_iff.mp l'
    obtain ⟨o1, e5, e6⟩ := Option.bind_eq_some_iff.mp e4
    refine hg.ev d ρ' ρ1 e3 G'' H'' σ' y (x'.mono f2) r2 _ fun σ2 x2 s2 o2 => ?_
    have fr := f'.trans ((FrS.of f2).trans (FrS.sub s2 o2))
    refine hb.ev ρ1 o1 e5 G'' H'' σ2 x2 _ ?_
    cases o1 with
    | nx ρ2 => exact fun σ3 G3 H3 x3 f3 => ⟨G3, ρ2, g'.trans (f2.g.trans f3.g), x3, fr.trans f3, e6⟩
    | ct ρ2 => exact fun σ3 G3 H3 x3 f3 => ⟨G3, ρ2, g'.trans (f2.g.trans f3.g), x3, fr.trans f3, e6⟩
    | bk ρ2 =>
      intro σ3 G3 H3 x3 f3
      cases e6
      exact k σ3 G3 H3 x3 ((FrS.of f1).trans (fr.trans f3))
    | rt z =>
      intro v G3 H3 f3 r3
      cases e6
      exact k v G3 H3 ((FrS.of f1).transR (fr.transR f3)) r3
  · rintro σ' H' ⟨G', ρ', g', x', f', l'⟩
    rw [List.drop_length] at l'
    cases l'
    exact k σ' G' H' x' ((FrS.of f1).trans f')⟩
/-! comprehensions -/
def wipeE (ρ : Env) : List Nat → Env
  | [] => ρ
  | v :: vs => (wipeE ρ vs).set v Sl.un
theorem wipeE_len (ρ : Env) : ∀ vs : List Nat, (wipeE ρ vs).length = ρ.length
  | [] => rfl
  | v :: vs => by unfold wipeE; rw [List.length_set, wipeE_len ρ vs]
theorem wipeE_get {ρ : Env} {i : Nat} {s : Sl} (hs : s ≠ .un) : ∀ {vs : List Nat}, (wipeE ρ vs)[i]? = some s → ρ[i]? = some s ∧ i ∉ vs
  | [], h => ⟨h, by simp⟩
  | v :: vs, h => by
    unfold wipeE at h
    by_cases hi : v = i
    · subst hi
      by_cases hv : v < (wipeE ρ vs).length
      · rw [List.getElem?_set_self hv] at h; cases h; exact absurd rfl hs
      · rw [List.getElem?_eq_none (by simpa using hv)] at h; cases h
    · rw [List.getElem?_set_ne hi] at h
      obtain ⟨h1, h2⟩ := wipeE_get hs h
      exact ⟨h1, by simp only [List.mem_cons, not_or]; exact ⟨fun e => hi e.symm, h2⟩⟩
theorem EnvOk.wipe {G H : Hp} {σ : St} {ρ : Env} (x : EnvOk G H σ ρ) (vs : List Nat) : EnvOk G H (L2.wipe σ vs) (wipeE ρ vs) := by
  refine ⟨x.gh, by rw [wipe_length, wipeE_len]; exact x.len, fun i d h => ?_, fun i ds h => ?_, fun i j ds es p h1 h2 h3 h4 => ?_⟩
  · obtain ⟨h1, h2⟩ := wipeE_get (fun z => by cases z) h
    rw [wipe_out h2]
    exact x.pu i d h1
  · obtain ⟨h1, h2⟩ := wipeE_get (fun z => by cases z) h
    rw [wipe_out h2]
    exact x.ow i ds h1
  · obtain ⟨a1, a2⟩ := wipeE_get (fun z => by cases z) h1
    obtain ⟨b1, b2⟩ := wipeE_get (fun z => by cases z) h2
    rw [wipe_out a2] at h3
    rw [wipe_out b2] at h4
    exact x.inj i j ds es p a1 b1 h3 h4
/-- a target of the block's own names -/
def TgW (g : TG) (vs : List Nat) : Prop := ∀ (v : V) (σ : St) (H : Hp) (Q : St → Hp → Prop), g v σ H Q → g v σ H fun σ2 H2 => wipe σ2 vs = wipe σ vs ∧ Q σ2 H2
def TgsW (g : TGs) (vs : List Nat) : Prop := ∀ (us : List V) (σ : St) (H : Hp) (Q : St → Hp → Prop), g us σ H Q → g us σ H fun σ2 H2 => wipe σ2 vs = wipe σ vs ∧ Q σ2 H2
theorem wipe_set {σ : St} {i : Nat} {o : Option V} : ∀ {vs : List Nat}, i ∈ vs → wipe (σ.set i o) vs = wipe σ vs
  | v :: vs, h => by
    unfold wipe
    by_cases hm : i ∈ vs
    · rw [wipe_set hm]
    · have e : v = i := by
        rcases List.mem_cons.mp h with h | h
        · exact h.symm
        · exact absurd h hm
      subst e
      have : ∀ {ws : List Nat}, v ∉ ws → wipe (σ.set v o) ws = (wipe σ ws).set v o := fun {ws} => by
        induction ws with
        | nil => intro _; rfl
        | cons w ws ih =>
          intro hn
          unfold wipe
          have hne : v ≠ w := fun z => hn (by rw [z]; exact List.mem_cons_self)
          rw [ih (fun z => hn (List.mem_cons_of_mem _ z))]
          first | rw [List.set_comm _ _ hne] | rw [List.set_comm _ _ hne.symm]
      rw [this hm, List.set_set]
theorem wipe_wipe {σ : St} {vs : List Nat} : ∀ {ws : List Nat}, (∀ w ∈ ws, w ∈ vs) → wipe (wipe σ ws) vs = wipe σ vs
  | [], _ => rfl
  | w :: ws, h => by
    rw [show wipe σ (w :: ws) = (wipe σ ws).set w none from rfl, wipe_set (h w List.mem_cons_self), wipe_wipe fun z hz => h z (List.mem_cons_of_mem _ hz)]
theorem tw_name {i : Nat} {vs : List Nat} (h : i ∈ vs) : TgW (gName i) vs := fun v σ H Q q => ⟨wipe_set h, q⟩
theorem tws_nil {vs : List Nat} : TgsW gNil vs := fun us σ H Q q => ⟨q.1, rfl, q.2⟩
theorem tws_cons {g : TG} {gs : TGs} {vs : List Nat} (mono : ∀ v σ H (Q Q' : St → Hp → Prop), (∀ σ' H', Q σ' H' → Q' σ' H') → g v σ H Q → g v σ H Q') (h : TgW g vs) (hs : TgsW gs vs) : TgsW (gCons g gs) vs := fun us σ H Q ⟨v, r, e, q⟩ =>
  ⟨v, r, e, mono v σ H _ _ (fun σ1 H1 ⟨w1, q1⟩ => by
    have := hs r σ1 H1 _ q1
    rw [w1] at this
    exact this) (h v σ H _ q)⟩
theorem mono_nm {i : Nat} : ∀ v σ H (Q Q' : St → Hp → Prop), (∀ σ' H', Q σ' H' → Q' σ' H') → gName i v σ H Q → gName i v σ H Q' := fun _ _ _ _ _ k q => k _ _ q
theorem tw_tup {K : PySem.W.Frag} {n : Nat} {gs : TGs} {vs : List Nat} (h : TgsW gs vs) : TgW (gTup K n gs) vs := fun v σ H Q ⟨a, xs, e1, e2, e3, q⟩ => ⟨a, xs, e1, e2, e3, h xs σ H Q q⟩
def compF (θ : D → Env → Option Env) (χ : Env → Option Bool) (φ : Env → Option D) : List D → Env → Option (List D)
  | [], _ => some []
  | d :: ds, ρ => (θ d ρ).bind fun ρ1 => (χ ρ1).bind fun b => if b = true then (φ ρ1).bind fun z => (compF θ χ φ ds ρ).map (z :: ·) else compF θ χ φ ds ρ
def lcF (vs : List Nat) (ψ : Env → Option (List D)) (θ : D → Env → Option Env) (χ : Env → Option Bool) (φ : Env → Option D) : Env → Option (List D) := fun ρ => (ψ ρ).bind fun ds => if ds.length ≤ Lim then compF θ χ φ ds (wipeE ρ vs) else none
theorem comp_len {θ : D → Env → Option Env} {χ : Env → Option Bool} {φ : Env → Option D} : ∀ {ds : List D} {ρ : Env} {zs : List D}, compF θ χ φ ds ρ = some zs → zs.length ≤ ds.length
  | [], ρ, zs, h => by cases h; exact Nat.le_refl _
  | d :: ds, ρ, zs, h => by
    unfold compF at h
    obtain ⟨ρ1, e1, h⟩ := Option.bind_eq_some_iff.mp h
    obtain ⟨b, e2, h⟩ := Option.bind_eq_some_iff.mp h
    split at h
    · obtain ⟨z, e3, h⟩ := Option.bind_eq_some_iff.mp h
      obtain ⟨r, e4, rfl⟩ := Option.map_eq_some_iff.mp h
      have := comp_len e4
      rw [List.length_cons, List.length_cons]; omega
    · have := comp_len h
      rw [List.length_cons]; omega
def TsS : TT → (Env → Option Bool) → Prop := TeS
def yesF : Env → Option Bool := fun _ => some true
theorem ts_nil : TeS tYes yesF := fun ρ b e G H σ x Q k => by cases e; exact k G H (.refl x.gh)
/-! readings by what they give alone -/
def cPu (φ : Env → Option D) : TE := fun σ H Q => ∃ (ρ : Env) (d : D) (G : Hp), φ ρ = some d ∧ EnvOk G H σ ρ ∧ ∀ v G2 H2, Fr G H G2 H2 → Rep G2 d v → Q v H2
def cTe (χ : Env → Option Bool) : TT := fun σ H Q => ∃ (ρ : Env) (b : Bool) (G : Hp), χ ρ = some b ∧ EnvOk G H σ ρ ∧ ∀ G2 H2, Fr G H G2 H2 → Q b H2
def cTg (vs : List Nat) (θ : D → Env → Option Env) : TG := fun v σ H Q => ∃ (ρ ρ2 : Env) (d : D) (G : Hp), θ d ρ = some ρ2 ∧ EnvOk G H σ ρ ∧ Rep G d v ∧ ∀ σ2, EnvOk G H σ2 ρ2 → (∀ a, Own σ2 ρ2 a → Own σ ρ a) → wipe σ2 vs = wipe σ vs → Q σ2 H
theorem PuD.c (h : PuD X e t φ) : PE X e (cPu φ) := ⟨fun pins s σ H Q I ⟨ρ, d, G, h1, h2, h3⟩ => h.pe.run pins s σ H Q I (h.ev ρ d h1 G H σ h2 Q h3)⟩
theorem TeD.c {tt : TT} (h : TeD X e tt χ) : PT X e (cTe χ) := ⟨fun pins s σ H Q I ⟨ρ, d, G, h1, h2, h3⟩ => h.pt.run pins s σ H Q I (h.ev ρ d h1 G H σ h2 Q h3)⟩
theorem TgD.c {vs : List Nat} (h : TgD X tg g θ) (hw : TgW g vs) : PG X tg (cTg vs θ) := ⟨fun pins s σ H v u Q I r ⟨ρ, ρ2, d, G, h1, h2, h3, h4⟩ => by
  have q := hw v σ H _ (h.ev d ρ ρ2 h1 G H σ v h2 h3 (fun σ2 H2 => H2 = H ∧ EnvOk G H σ2 ρ2 ∧ ∀ a, Own σ2 ρ2 a → Own σ ρ a) fun σ2 x2 s2 _ => ⟨rfl, x2, s2⟩)
  refine thn (h.pg.run pins s σ H v u _ I r q) fun _ s' ⟨σ', H', I', w', e', x', s2⟩ => ?_
  subst e'
  exact ⟨σ', H', I', h4 σ' x' s2 w'⟩⟩
/-- what is walked, at one place -/
def ItAt (wi : TI) (ds : List D) (G H : Hp) (σ : St) : Prop := ∀ R : It → Hp → Prop,
  (∀ J G2 H2 (Γ : Hp → Prop) Y, Fr G H G2 H2 → Walk J ds.length Γ Y → (∀ H', Ex G2 H' → Γ H') →
    (∀ i H' x H'' G', i < ds.length → Ex G2 G' → Ex G' H' → Y i H' x H'' → ∃ d G'', ds[i]? = some d ∧ Fr G' H' G'' H'' ∧ Rep G'' d x) → R J H2) → wi σ H R
theorem lc_at (vs : List Nat) {ds zs : List D} {ρ : Env} {G H : Hp} {σ : St} (hi : ItAt wi ds G H σ) (x : EnvOk G H σ ρ) (hlen : ds.length ≤ Lim) (e2 : compF θ χ φ ds (wipeE ρ vs) = some zs) (Q : VK)
    (k : ∀ p us G2 H2, Fr G H G2 H2 → H p = none → G2 p = none → H2 p = some (.lst us) → zs.length ≤ Lim → Reps G2 zs us → Q (.ref p) H2) : tLc wi (cTg vs θ) (cTe χ) (cPu φ) vs σ H Q := by
  refine hi _ fun J G1 H1 Γ Y f1 wk hΓ hY => fun Dl nD => ?_
  have x1 := (x.mono f1).wipe vs
  refine lc_it wk (fun i H' => ∃ G' acc us rest, Fr G1 H1 G' H' ∧ G' Dl = none ∧ H' Dl = some (.lst us) ∧ Reps G' acc us ∧ acc.length ≤ i ∧ compF θ χ φ (ds.drop i) (wipeE ρ vs) = some rest ∧ zs = acc ++ rest)
    ⟨G1, [], [], zs, .tmp f1.gh nD, f1.gh.back nD, upd_same, .nil, Nat.le_refl _, by rw [List.drop_zero]; exact e2, rfl⟩ (fun i H' _ ⟨G', _, _, _, f', _⟩ => hΓ H' (f'.g.trans f'.gh)) ?_ ?_
  · rintro i y H' H'' hi' ⟨G', acc, us, rest, f', nG, hD, ra, hl, hc, hz⟩ yy
    obtain ⟨d, G'', h1, f2, r2⟩ := hY i H' y H'' G' hi' f'.g f'.gh yy
    have hd : ds.drop i = d :: ds.drop (i + 1) := by
      rw [List.drop_eq_getElem_cons hi']
      congr 1
      rw [List.getElem?_eq_getElem hi'] at h1
      exact Option.some.inj h1
    rw [hd] at hc
    unfold compF at hc
    obtain ⟨ρ1, e3, hc⟩ := Option.bind_eq_some_iff.mp hc
    obtain ⟨b, e4, hc⟩ := Option.bind_eq_some_iff.mp hc
    have f12 := f'.trans f2
    have nG2 : G'' Dl = none := f2.nw _ (by rw [hD]; exact fun z => by cases z) nG
    have hD2 := f2.h _ _ hD
    refine ⟨wipeE ρ vs, ρ1, d, G'', e3, x1.mono f12, r2, fun σ2 x2 _ w2 => ⟨by rw [w2, wipe_wipe fun _ z => z], ρ1, b, G'', e4, x2, fun G3 H3 f3 => ?_⟩⟩
    have nG3 : G3 Dl = none := f3.nw _ (by rw [hD2]; exact fun z => by cases z) nG2
    cases b with
    | true =>
      dsimp only
      rw [if_pos rfl] at hc ⊢
      obtain ⟨z, e5, hc⟩ := Option.bind_eq_some_iff.mp hc
      obtain ⟨rest2, e6, rfl⟩ := Option.map_eq_some_iff.mp hc
      refine ⟨ρ1, z, G3, e5, x2.mono f3, fun v G4 H4 f4 r4 => ?_⟩
      have f34 := f3.trans f4
      have nG4 : G4 Dl = none := f34.nw _ (by rw [hD2]; exact fun z => by cases z) nG2
      have hD4 := f34.h _ _ hD2
      have f14 := f12.trans f34
      have ra4 := ra.mono (f2.g.trans f34.g)
      refine ⟨us, hD4, ?_, G4, acc ++ [z], us ++ [v], rest2, ⟨f14.g, fun a o q => ?_, fun a o q => ?_, f14.nw⟩, nG4, upd_same, ra4.app (.cons r4 .nil), by rw [List.length_append, List.length_singleton]; omega, e6, by rw [hz, List.append_assoc]; rfl⟩
      · rw [ra.len, sizeLine_eq]; have : Lim = 5000 := rfl; omega
      · have : a ≠ Dl := fun e => by rw [e, nG4] at q; cases q
        rw [upd_ne this]; exact f14.gh _ _ q
      · have : a ≠ Dl := ne_of_none q nD
        rw [upd_ne this]; exact f14.h _ _ q
    | false =>
      dsimp only
      rw [if_neg (by decide)] at hc ⊢
      exact ⟨G3, acc, us, rest, f12.trans f3, nG3, f3.h _ _ hD2, ra.mono (f2.g.trans f3.g), by omega, hc, hz⟩
  · rintro H' ⟨G', acc, us, rest, f', nG, hD, ra, hl, hc, hz⟩
    rw [List.drop_length] at hc
    cases hc
    rw [List.append_nil] at hz
    subst hz
    exact k Dl us G' H' (f1.trans f') (f1.ne nD) nG hD (by omega) ra
theorem lc_ev (vs : List Nat) (hi : ItS wi ψ) : OwS (tLc wi (cTg vs θ) (cTe χ) (cPu φ) vs) (lcF vs ψ θ χ φ) := fun ρ zs ee G H σ x Q k => by
  obtain ⟨ds, e1, e2⟩ := Option.bind_eq_some_iff.mp ee
  split at e2
  · rename_i hlen
    exact lc_at vs (hi ρ ds e1 G H σ x) x hlen e2 Q k
  · cases e2
/-- a comprehension's parts -/
structure LcD (X : Cx) (tg iter elt : Expr) (ifs : List Expr) (scope : Scope) (wi : TI) (own : List (Str × Nat)) (ψ : Env → Option (List D)) (θ : D → Env → Option Env) (χ : Env → Option Bool) (φ : Env → Option D) : Prop where
  it : ItD X tg iter wi ψ
  ok : BlkOk X.N X.env.scope scope own
  pg : ∀ (s : Shared) (H : Hp) (C : Addr) (cl : List (Str × Addr)) (fp : List Addr), PG (X.blk s H scope (compEnvC scope cl C X.env) fp) tg (cTg (own.map (·.2)) θ)
  pt : ∀ (s : Shared) (H : Hp) (C : Addr) (cl : List (Str × Addr)) (fp : List Addr), PTs (X.blk s H scope (compEnvC scope cl C X.env) fp) ifs (cTe χ)
  pe : ∀ (s : Shared) (H : Hp) (C : Addr) (cl : List (Str × Addr)) (fp : List Addr), PE (X.blk s H scope (compEnvC scope cl C X.env) fp) elt (cPu φ)
  sc : ∀ x, foldedSetIterable iter X.env x = pure x
theorem LcD.ow {elt iter : Expr} {ifs : List Expr} {scope : Scope} {own : List (Str × Nat)} (h : LcD X tg iter elt ifs scope wi own ψ θ χ φ) (hc : X.calm = true) (hN : X.N.Nodup) :
    OwD X (.ListComp elt [⟨tg, iter, ifs, 0⟩] scope pos) (tLc wi (cTg (own.map (·.2)) θ) (cTe χ) (cPu φ) (own.map (·.2))) (lcF (own.map (·.2)) ψ θ χ φ) :=
  ⟨pe_lc hc hN h.it.pi h.ok h.pg h.pt h.pe h.sc, lc_ev _ h.it.ev⟩
theorem LcD.set {elt iter : Expr} {ifs : List Expr} {scope : Scope} {own : List (Str × Nat)} {i : Nat} {y : Str} {py spos : Pos} (h : LcD X tg iter elt ifs scope wi own ψ θ χ φ) (hc : X.calm = true) (hN : X.N.Nodup) (hy : X.N[i]? = some y) (hyl : X.env.scope.names.lookup y = some .local)
    (hsw : swapsWith (.ListComp elt [⟨tg, iter, ifs, 0⟩] scope pos) (some (.Name y py)) spos.line X.env = pure true) :
    PS X (.Assign [.Name y py] (.ListComp elt [⟨tg, iter, ifs, 0⟩] scope pos) spos) (tAsg (tLc wi (cTg (own.map (·.2)) θ) (cTe χ) (cPu φ) (own.map (·.2))) (gName i)) :=
  ps_setLc hc hN hy hyl hsw h.it.pi h.ok h.pg h.pt h.pe h.sc
theorem lc0 {elt iter : Expr} {scope : Scope} (own : List (Str × Nat)) {g : Shared → Hp → Addr → List (Str × Addr) → List Addr → TG} {te : Shared → Hp → Addr → List (Str × Addr) → List Addr → TE} (hi : ItD X tg iter wi ψ) (ok : BlkOk X.N X.env.scope scope own)
    (hg : ∀ (s : Shared) (H : Hp) (C : Addr) (cl : List (Str × Addr)) (fp : List Addr), TgD (X.blk s H scope (compEnvC scope cl C X.env) fp) tg (g s H C cl fp) θ) (hw : ∀ s H C cl fp, TgW (g s H C cl fp) (own.map (·.2)))
    (he : ∀ (s : Shared) (H : Hp) (C : Addr) (cl : List (Str × Addr)) (fp : List Addr), PuD (X.blk s H scope (compEnvC scope cl C X.env) fp) elt (te s H C cl fp) φ) (hs : ∀ x, foldedSetIterable iter X.env x = pure x := by intro _; rfl) : LcD X tg iter elt [] scope wi own ψ θ yesF φ :=
  ⟨hi, ok, fun s H C cl fp => (hg s H C cl fp).c (hw s H C cl fp), fun s H C cl fp => ⟨fun pins s' σ H' Q I ⟨ρ, b, G, h1, h2, h3⟩ => pts_nil.run pins s' σ H' Q I (ts_nil ρ b h1 G H' σ h2 Q h3)⟩, fun s H C cl fp => (he s H C cl fp).c, hs⟩
theorem lcI {elt iter c : Expr} {scope : Scope} (own : List (Str × Nat)) {g : Shared → Hp → Addr → List (Str × Addr) → List Addr → TG} {te : Shared → Hp → Addr → List (Str × Addr) → List Addr → TE} {tt : Shared → Hp → Addr → List (Str × Addr) → List Addr → TT} (hi : ItD X tg iter wi ψ) (ok : BlkOk X.N X.env.scope scope own)
    (hg : ∀ (s : Shared) (H : Hp) (C : Addr) (cl : List (Str × Addr)) (fp : List Addr), TgD (X.blk s H scope (compEnvC scope cl C X.env) fp) tg (g s H C cl fp) θ) (hw : ∀ s H C cl fp, TgW (g s H C cl fp) (own.map (·.2)))
    (ht : ∀ (s : Shared) (H : Hp) (C : Addr) (cl : List (Str × Addr)) (fp : List Addr), TeD (X.blk s H scope (compEnvC scope cl C X.env) fp) c (tt s H C cl fp) χ)
    (he : ∀ (s : Shared) (H : Hp) (C : Addr) (cl : List (Str × Addr)) (fp : List Addr), PuD (X.blk s H scope (compEnvC scope cl C X.env) fp) elt (te s H C cl fp) φ) (hs : ∀ x, foldedSetIterable iter X.env x = pure x := by intro _; rfl) : LcD X tg iter elt [c] scope wi own ψ θ χ φ :=
  ⟨hi, ok, fun s H C cl fp => (hg s H C cl fp).c (hw s H C cl fp), fun s H C cl fp => pts_one (ht s H C cl fp).c, fun s H C cl fp => (he s H C cl fp).c, hs⟩
/-! defs -/
def spP (f : List D → Option D) : Sp := fun vs H Q _ => ∃ (G : Hp) (ds : List D) (d : D), Ex G H ∧ Reps G ds vs ∧ f ds = some d ∧ ∀ v G2 H2, Fr G H G2 H2 → Rep G2 d v → Q v H2
/-- a def of the program, by what it computes -/
structure Fn (P : Program) (w : World) (K : PySem.W.Frag) (mg : Str → Option Value) (base : Heap) (x : Str) (k n : Nat) (f : List D → Option D) : Prop where
  ex : ∃ (a : Addr) (fd : FuncData) (ps : List Str), FnOk P w K mg base CX0 k a fd ps (spP f) ∧ mg x = some (.ref a) ∧ PySem.W.keepIn K (.ref a) = true ∧ Binds K fd ps []
theorem pu_call {x : Str} {k n : Nat} {f : List D → Option D} {p : Pos} {tr : TA} (h : Fn X.prog X.w X.K X.mg X.base x k n f) (hr : Room k X.A) (hg : Gl X x) (ha : ArD X (e :: es) tr ψ) (hdb : (x == ("__debug__" : Str)) = false := by decide)
    (he : starEach (e :: es) X.env = (false, eval e X.env) :: starEach es X.env := by rfl) (hpl : (backTo pos (starEach es X.env)).any (·.1) = false := by rfl) :
    PuD X (.Call (.Name x p) (e :: es) [] pos) (tCall (spP f) [] E0 tr) (app1 f ψ) := by
  obtain ⟨a, fd, ps, F, h1, h2, h3⟩ := h.ex
  refine ⟨pe_call F hr hg h1 h2 h3 .nil pass0 ha.pa hdb he hpl, fun ρ d ee G H σ x Q k => ?_⟩
  obtain ⟨ds, e1, e2⟩ := Option.bind_eq_some_iff.mp ee
  refine ha.ev ρ ds e1 G H σ x _ fun vs G1 H1 f1 r1 => ⟨G1, ds, d, f1.gh, by rw [List.append_nil]; exact r1, e2, fun v G2 H2 f2 r2 => k v G2 H2 (f1.trans f2) r2⟩
/-- the arguments may be own lists, where what comes back is a leaf -/
def leafOf : Option D → Option D
  | some (.leaf v) => some (.leaf v)
  | _ => none
theorem views_reps {G H : Hp} (x : Ex G H) : ∀ {ds : List D} {vs : List V}, Views G H ds vs → Reps H ds vs
  | [], vs, h => by cases (show vs = [] from h); exact .nil
  | d :: ds, vs, ⟨u, r, e, h1, h2⟩ => by subst e; exact .cons (h1.rep x) (views_reps x h2)
theorem pu_callV {x : Str} {k n : Nat} {f : List D → Option D} {p : Pos} {tr : TA} (h : Fn X.prog X.w X.K X.mg X.base x k n f) (hr : Room k X.A) (hg : Gl X x) (ha : AvD X (e :: es) tr ψ) (hdb : (x == ("__debug__" : Str)) = false := by decide)
    (he : starEach (e :: es) X.env = (false, eval e X.env) :: starEach es X.env := by rfl) (hpl : (backTo pos (starEach es X.env)).any (·.1) = false := by rfl) :
    PuD X (.Call (.Name x p) (e :: es) [] pos) (tCall (spP f) [] E0 tr) (app1 (fun ds => leafOf (f ds)) ψ) := by
  obtain ⟨a, fd, ps, F, h1, h2, h3⟩ := h.ex
  refine ⟨pe_call F hr hg h1 h2 h3 .nil pass0 ha.pa hdb he hpl, fun ρ d ee G H σ x Q k => ?_⟩
  obtain ⟨ds, e1, e2⟩ := Option.bind_eq_some_iff.mp ee
  have e2 : leafOf (f ds) = some d := e2
  unfold leafOf at e2
  split at e2
  · rename_i v0 e3
    cases e2
    refine ha.ev ρ ds e1 G H σ x _ fun vs G1 H1 f1 r1 => ⟨H1, ds, _, Ex.refl _, by rw [List.append_nil]; exact views_reps f1.gh r1, e3, fun v G2 H2 f2 r2 => ?_⟩
    obtain ⟨rfl, lf⟩ := r2.un_lf
    exact k v G1 H2 (f1.trans (.of f1.gh (f2.g.trans f2.gh))) (.lf lf)
  · cases e2
def env0 (n : Nat) (ds : List D) : Env := ds.map Sl.pu ++ List.replicate (n - ds.length) Sl.un
def runF (n : Nat) (Φ : Env → Option Out) : List D → Option D := fun ds => (Φ (env0 n ds)).bind fun o => match o with
  | .rt d => some d
  | .nx _ => some (.leaf .non)
  | _ => none
theorem env0_ok {G H : Hp} (x : Ex G H) {N : List Str} {ds : List D} {vs : List V} (r : Reps G ds vs) : EnvOk G H (start N vs) (env0 N.length ds) := by
  have hl := r.len
  have none_ow : ∀ {i : Nat} {es : D}, (env0 N.length ds)[i]? = some (Sl.ow es) → False := fun {i es} h => by
    unfold env0 at h
    rw [List.getElem?_append] at h
    split at h
    · rw [List.getElem?_map] at h
      cases e : ds[i]? with
      | none => rw [e] at h; cases h
      | some d => rw [e] at h; cases h
    · rw [List.getElem?_replicate] at h
      split at h <;> cases h
  refine ⟨x, ?_, fun i d h => ?_, fun i es h => (none_ow h).elim, fun i j es fs p h => (none_ow h).elim⟩
  · unfold start env0
    rw [List.length_append, List.length_append, List.length_map, List.length_map, List.length_replicate, List.length_replicate, hl]
  · unfold env0 at h
    rw [List.getElem?_append] at h
    split at h
    · rename_i hi
      rw [List.length_map] at hi
      rw [List.getElem?_map] at h
      cases e : ds[i]? with
      | none => rw [e] at h; cases h
      | some d' =>
        rw [e] at h
        cases h
        obtain ⟨u, h1, h2⟩ := r.get e
        refine ⟨u, ?_, h2⟩
        unfold start
        rw [List.getElem?_append_left (by rw [List.length_map]; omega), List.getElem?_map, h1]
        rfl
    · rw [List.getElem?_replicate] at h
      split at h <;> cases h
theorem ok_def {P : Program} {w : World} {K : PySem.W.Frag} {mg : Str → Option Value} {base : Heap} {x qual : Str} {st : Stmt} {f : Addr} {fd : FuncData} {N ps : List Str} {k : Nat} {Φ : Env → Option Out} (F : Fun K x qual st f fd) (S : FnScope N ps (defScope st))
    (hb : ∀ (cdv : Value) (A : Around) (outer : List PySem.Env) (s : Shared) (H : Hp) (E : XK), Room k (A.deeper (envOfC qual (defScope st) s.heap.objs.size f cdv)) → ∃ t, SsD (cxOf CX0 P w K mg base N qual (defScope st) f cdv A outer s H E).nox (defBody st) t Φ) :
    FnOk P w K mg base CX0 (k + 1) f fd ps (spP fun ds => if ds.length = ps.length then runF N.length Φ ds else none) := by
  refine F.ok S (fun vs H Q E h => ?_) (fun cdv A outer s H vs Q E hr h => ?_)
  · obtain ⟨G, ds, d, x, r, e, _⟩ := h
    have e : (if ds.length = ps.length then runF N.length Φ ds else none) = some d := e
    split at e
    · rename_i hl; rw [r.len, hl]
    · cases e
  · obtain ⟨G, ds, d, x, r, e, q⟩ := h
    have e : (if ds.length = ps.length then runF N.length Φ ds else none) = some d := e
    obtain ⟨t, b⟩ := hb cdv A outer s H E hr
    refine ⟨t, b.ps, ?_⟩
    split at e
    · obtain ⟨o, e1, e2⟩ := Option.bind_eq_some_iff.mp e
      have x0 := env0_ok x (N := N) r
      have nown : ∀ a, ¬ Own (start N vs) (env0 N.length ds) a := fun a ⟨i, es, h, _⟩ => by
        unfold env0 at h
        rw [List.getElem?_append] at h
        split at h
        · rw [List.getElem?_map] at h
          cases e : ds[i]? with
          | none => rw [e] at h; cases h
          | some d => rw [e] at h; cases h
        · rw [List.getElem?_replicate] at h
          split at h <;> cases h
      refine b.ev _ o e1 G H _ x0 _ ?_
      cases o with
      | nx ρ2 =>
        cases e2
        exact fun σ2 G2 H2 x2 f2 => q .non G2 H2 ⟨f2.g, x2.gh, fun a o h => f2.h a o h (nown a), fun a h1 h2 => f2.nw a h1 h2 (nown a)⟩ (.lf rfl)
      | rt d' =>
        cases e2
        exact fun v G2 H2 f2 r2 => q v G2 H2 ⟨f2.g, f2.gh, fun a o h => f2.h a o h (nown a), fun a h1 h2 => f2.nw a h1 h2 (nown a)⟩ r2
      | bk ρ2 => cases e2
      | ct ρ2 => cases e2
    · cases e
end
end L2.Tr

/-! Trees: what the emitted derivations name. -/
namespace L2.Tr
open PySem PySem.Spec PyProof.Rows
/-- the names of what is built in stand for it -/
structure TxB (mg : Str → Option Value) : Prop where
  z_len : mg "len" = none
  z_list : mg "list" = none
  z_tuple : mg "tuple" = none
  z_zip : mg "zip" = none
  z_enumerate : mg "enumerate" = none
  z_range : mg "range" = none
  z_any : mg "any" = none
  z_all : mg "all" = none
  z_isinstance : mg "isinstance" = none
  z_int : mg "int" = none
  z_str : mg "str" = none
  z_bool : mg "bool" = none
  z_dict : mg "dict" = none
  z_sum : mg "sum" = none
  z_set : mg "set" = none
section
variable {X : Cx} {e e2 tg a b c : Expr} {es : List Expr} {t t' ta tb tc te : TE} {φ φ' φa φb φc : Env → Option D} {ψ : Env → Option (List D)} {g : TG} {θ : D → Env → Option Env} {pos : Pos} {tu : TS} {Φ : Env → Option Out} {χ : Env → Option Bool} {tt : TT} {wi : TI}
def orE {β : Type} (φ φ' : Env → Option β) : Env → Option β := fun ρ => (φ ρ).or (φ' ρ)
/-- read in one of two ways -/
theorem PuD.or (h : PuD X e t φ) (h' : PuD X e t' φ') : PuD X e (fun σ H Q => t σ H Q ∨ t' σ H Q) (orE φ φ') := ⟨⟨fun pins s σ H Q I w => w.elim (h.pe.run pins s σ H Q I) (h'.pe.run pins s σ H Q I)⟩, fun ρ d ee G H σ x Q k => by
  have ee : (φ ρ).or (φ' ρ) = some d := ee
  cases e1 : φ ρ with
  | some w =>
    rw [e1] at ee
    cases ee
    exact .inl (h.ev ρ _ e1 G H σ x Q k)
  | none =>
    rw [e1] at ee
    exact .inr (h'.ev ρ _ ee G H σ x Q k)⟩
theorem sd_nm {i : Nat} {x : Str} {pos' : Pos} (h : PuD X e t φ) (k : PE X e t → PS X (.Assign [.Name x pos'] e pos) (tAsg t (gName i))) : StD X (.Assign [.Name x pos'] e pos) (tAsg t (gName i)) (asgF φ (setF i)) := sd_set h (k h.pe)
theorem sd_nmO {i : Nat} {x : Str} {pos' : Pos} (h : OwD X e t ψ) (k : PE X e t → PS X (.Assign [.Name x pos'] e pos) (tAsg t (gName i))) : StD X (.Assign [.Name x pos'] e pos) (tAsg t (gName i)) (asgO i ψ) := sd_setO h (k h.pe)
theorem sd_appK {i : Nat} {o : Expr} {apos cpos : Pos} (h : PuD X e t φ) (hp : PE X e t → PS X (.Expr (.Call (.Attribute o "append" apos) [e] [] cpos) pos) (tDrop (tBM X.K "list" rAppend (tVar i) (tCons t tNil)))) :
    StD X (.Expr (.Call (.Attribute o "append" apos) [e] [] cpos) pos) (tDrop (tBM X.K "list" rAppend (tVar i) (tCons t tNil))) (growF i φ fun xs d => xs ++ [d]) := sd_app h (hp h.pe)
theorem sd_extK {i : Nat} {o : Expr} {apos cpos : Pos} (h : PuD X e t φ) (hp : PE X e t → PS X (.Expr (.Call (.Attribute o "extend" apos) [e] [] cpos) pos) (tDrop (tBM X.K "list" rExtend (tVar i) (tCons t tNil)))) :
    StD X (.Expr (.Call (.Attribute o "extend" apos) [e] [] cpos) pos) (tDrop (tBM X.K "list" rExtend (tVar i) (tCons t tNil))) (growF i (extArg φ) fun xs ds => xs ++ ds) := sd_ext h (hp h.pe)
theorem mono_tup {K : PySem.W.Frag} {n : Nat} {gs : TGs} (h : ∀ us σ H (Q Q' : St → Hp → Prop), (∀ σ' H', Q σ' H' → Q' σ' H') → gs us σ H Q → gs us σ H Q') : ∀ v σ H (Q Q' : St → Hp → Prop), (∀ σ' H', Q σ' H' → Q' σ' H') → gTup K n gs v σ H Q → gTup K n gs v σ H Q' :=
  fun v σ H Q Q' k ⟨a, xs, e1, e2, e3, q⟩ => ⟨a, xs, e1, e2, e3, h xs σ H Q Q' k q⟩
theorem mono_nil : ∀ us σ H (Q Q' : St → Hp → Prop), (∀ σ' H', Q σ' H' → Q' σ' H') → gNil us σ H Q → gNil us σ H Q' := fun us σ H Q Q' k q => ⟨q.1, k _ _ q.2⟩
theorem mono_cons {g : TG} {gs : TGs} (h1 : ∀ v σ H (Q Q' : St → Hp → Prop), (∀ σ' H', Q σ' H' → Q' σ' H') → g v σ H Q → g v σ H Q') (h : ∀ us σ H (Q Q' : St → Hp → Prop), (∀ σ' H', Q σ' H' → Q' σ' H') → gs us σ H Q → gs us σ H Q') :
    ∀ us σ H (Q Q' : St → Hp → Prop), (∀ σ' H', Q σ' H' → Q' σ' H') → gCons g gs us σ H Q → gCons g gs us σ H Q' := fun us σ H Q Q' k ⟨v, r, e, q⟩ => ⟨v, r, e, h1 v σ H _ _ (fun σ' H' q' => h r σ' H' Q Q' k q') q⟩
/-! a chain of two comparisons -/
def chainF (o o' : D → D → Option D) (φa φb φc : Env → Option D) : Env → Option D := fun ρ => (φa ρ).bind fun x => (φb ρ).bind fun y => ((o x y).bind asB).bind fun k => if k = true then (φc ρ).bind fun z => o' y z else some (bD false)
theorem chain_ev {r r' : R2} {o o' : D → D → Option D} (hd : R2D r o) (hd' : R2D r' o') (ha : ViS ta φa) (hb : ViS tb φb) (hc : ViS tc φc) : PuS (tChain r r' ta tb tc) (chainF o o' φa φb φc) := fun ρ d ee G H σ x Q k => by
  obtain ⟨d1, e1, ee⟩ := Option.bind_eq_some_iff.mp ee
  obtain ⟨d2, e2, ee⟩ := Option.bind_eq_some_iff.mp ee
  obtain ⟨kk, e3, ee⟩ := Option.bind_eq_some_iff.mp ee
  obtain ⟨d3, e4, e5⟩ := Option.bind_eq_some_iff.mp e3
  refine ha ρ d1 e1 G H σ x _ fun v1 G1 H1 f1 r1 => ?_
  refine hb ρ d2 e2 G1 H1 σ (x.mono f1) _ fun v2 G2 H2 f2 r2 => ?_
  refine hd d1 d2 d3 e4 G2 H2 v1 v2 f2.gh (r1.mono f2) r2 _ fun v3 G3 H3 f3 r3 => ?_
  unfold asB at e5
  split at e5
  · cases e5
    obtain ⟨rfl, _⟩ := r3.un_lf
    refine ⟨kk, rfl, ?_⟩
    have f := f1.trans (f2.trans f3)
    cases kk with
    | true =>
      obtain ⟨d4, e6, e7⟩ := Option.bind_eq_some_iff.mp ee
      refine hc ρ d4 e6 G3 H3 σ (x.mono f) _ fun v4 G4 H4 f4 r4 => ?_
      exact hd' d2 d4 d e7 G4 H4 v2 v4 f4.gh (r2.mono (f3.trans f4)) r4 Q fun v G5 H5 f5 r5 => k v G5 H5 (f.trans (f4.trans f5)) r5
    | false =>
      cases ee
      exact k _ G3 H3 f (.lf rfl)
  · cases e5
theorem te_chain {op op' : CmpOp} {r r' : R2} {o o' : D → D → Option D} (ho : OpR X (compareOp op) r) (ho' : OpR X (compareOp op') r') (hd : R2D r o) (hd' : R2D r' o') (ha : ViD X a ta φa) (hb : ViD X b tb φb) (hc : ViD X c tc φc)
    (hm : lastMarks [op, op'] [b, c] = false := by with_unfolding_all rfl) : TeD X (.Compare a [op, op'] [b, c] pos) (tTest (tChain r r' ta tb tc)) (asBF (chainF o o' φa φb φc)) := ⟨pt_chain ho ho' ha.pe hb.pe hc.pe hm, te_test (chain_ev hd hd' ha.ev hb.ev hc.ev)⟩
/-! is, of truths -/
def isB : D → D → Option D
  | .leaf (.bl a), .leaf (.bl b) => some (bD (decide (a = b)))
  | _, _ => none
theorem r2_isB : R2D rIsB isB := fun d1 d2 z e G H v1 v2 x r1 r2 Q k => by
  unfold isB at e
  split at e
  · cases e
    obtain ⟨rfl, _⟩ := r1.lf
    obtain ⟨rfl, _⟩ := r2.lf
    exact ⟨_, _, rfl, rfl, k _ G H (.refl x) (.lf rfl)⟩
  · cases e
/-! names for what is put together -/
abbrev mapS (ψ : Env → Option (List D)) : Env → Option D := fun ρ => (ψ ρ).map (D.seq true)
abbrev tupDisp (ψ : Env → Option (List D)) : Env → Option D := fun ρ => (ψ ρ).bind fun ds => if ds.length ≤ Lim then some (.seq false ds) else none
abbrev lstDisp (ψ : Env → Option (List D)) : Env → Option (List D) := fun ρ => (ψ ρ).bind fun ds => if ds.length ≤ Lim then some ds else none
abbrev partF (φ : Env → Option D) : Env → Option (Option Int) := fun ρ => ((φ ρ).bind asI).map some
abbrev enumF (φ : Env → Option D) : Env → Option (List D) := fun ρ => (seqsF φ ρ).map (enumL 0)
abbrev skipF : Env → Option Out := fun ρ => some (.nx ρ)
abbrev isF (q : D → Option Bool) (φ : Env → Option D) : Env → Option D := fun ρ => ((φ ρ).bind q).map bD
abbrev lenA : List D → Option D := fun x => (lenD x).or (lenK x)
abbrev lstA : List D → Option (List D) := fun x => (lstO x).or (lstK x)
def negF (φ : Env → Option D) : Env → Option D := fun ρ => ((φ ρ).bind asI).map fun i => .leaf (.int (-i))
theorem pu_neg (h : PuD X a ta φa) : PuD X (.UnaryOp .USub a pos) (tUn (rU fun i => .int (-i)) ta) (negF φa) := ⟨pe_un un_neg h.pe, fun ρ d ee G H σ x Q k => by
  obtain ⟨i, e1, rfl⟩ := Option.map_eq_some_iff.mp ee
  obtain ⟨d1, e2, e3⟩ := Option.bind_eq_some_iff.mp e1
  refine h.ev ρ d1 e2 G H σ x _ fun v G1 H1 f1 r1 => ?_
  unfold asI at e3
  split at e3
  · cases e3
    obtain ⟨rfl, _⟩ := r1.un_lf
    exact ⟨i, rfl, k _ G1 H1 f1 (.lf rfl)⟩
  · cases e3⟩
/-! a, b = x, y -/
def parPP (i j : Nat) (φ φ' : Env → Option D) : Env → Option Out := fun ρ => (φ ρ).bind fun d => (φ' ρ).map fun d' => .nx ((ρ.set i (Sl.pu d)).set j (Sl.pu d'))
def parPO (i j : Nat) (φ : Env → Option D) (ψ : Env → Option (List D)) : Env → Option Out := fun ρ => (φ ρ).bind fun d => (ψ ρ).map fun ds => .nx ((ρ.set i (Sl.pu d)).set j (Sl.ow (.seq true ds)))
abbrev par_pp := parPP
abbrev par_po := parPO
theorem sd_par_pp {i j : Nat} {t1 t2 : TE} (h1 : PuD X a t1 φ) (h2 : PuD X b t2 φ') (hst : i ≠ j) {st : Stmt} (hp : PA X [a, b] (tCons t1 (tCons t2 tNil)) → PS X st (tPar i j (tCons t1 (tCons t2 tNil))))
    (hs1 : starEach [b] X.env = (false, eval b X.env) :: starEach [] X.env := by rfl) (hs : starEach [a, b] X.env = (false, eval a X.env) :: starEach [b] X.env := by rfl) : StD X st (tPar i j (tCons t1 (tCons t2 tNil))) (parPP i j φ φ') := ⟨hp (pa_cons h1.pe (pa_cons h2.pe pa_nil hs1) hs), fun ρ o ee G H σ x De k => by
  obtain ⟨d, e1, ee⟩ := Option.bind_eq_some_iff.mp ee
  obtain ⟨d', e2, rfl⟩ := Option.map_eq_some_iff.mp ee
  refine h1.ev ρ d e1 G H σ x _ fun v G1 H1 f1 r1 => ?_
  refine h2.ev ρ d' e2 G1 H1 σ (x.mono f1) _ fun v2 G2 H2 f2 r2 => ⟨v, v2, rfl, ?_⟩
  have x2 := (x.mono f1).mono f2
  have y := (x2.setP (r1.mono f2.g) i)
  refine k _ G2 H2 (y.setP r2 j) ((FrS.of (f1.trans f2)).trans (FrS.sub (fun c z => own_setP x.len (own_setP y.len z)) ((obk_set fun _ _ _ z => by cases z).trans (obk_set fun _ _ _ z => by cases z))))⟩
theorem sd_par_po {i j : Nat} {t1 t2 : TE} (h1 : PuD X a t1 φ) (h2 : OwD X b t2 ψ) (hst : i ≠ j) {st : Stmt} (hp : PA X [a, b] (tCons t1 (tCons t2 tNil)) → PS X st (tPar i j (tCons t1 (tCons t2 tNil))))
    (hs1 : starEach [b] X.env = (false, eval b X.env) :: starEach [] X.env := by rfl) (hs : starEach [a, b] X.env = (false, eval a X.env) :: starEach [b] X.env := by rfl) : StD X st (tPar i j (tCons t1 (tCons t2 tNil))) (parPO i j φ ψ) := ⟨hp (pa_cons h1.pe (pa_cons h2.pe pa_nil hs1) hs), fun ρ o ee G H σ x De k => by
  obtain ⟨d, e1, ee⟩ := Option.bind_eq_some_iff.mp ee
  obtain ⟨ds, e2, rfl⟩ := Option.map_eq_some_iff.mp ee
  refine h1.ev ρ d e1 G H σ x _ fun v G1 H1 f1 r1 => ?_
  have x1 := x.mono f1
  refine h2.ev ρ ds e2 G1 H1 σ x1 _ fun p us G2 H2 f2 n1 n2 hp hl r2 => ⟨v, _, rfl, ?_⟩
  have x2 := x1.mono f2
  have y := (x2.setP (r1.mono f2.g) i)
  refine k _ G2 H2 (y.setO j n2 hp ⟨us, rfl, hl, r2⟩ fun l es _ z1 z2 => own_free x1 n1 (own_setP x.len ⟨l, es, z1, z2⟩)) ⟨f1.g.trans f2.g, fun c o h _ => f2.h _ _ (f1.h _ _ h), fun c z1 z2 _ => (f1.trans f2).nw c z1 z2, fun c z => ?_, (obk_set fun _ _ _ z => by cases z).trans (obk_set fun _ _ _ z => by cases z)⟩
  rcases own_setO y.len z with q | q
  · exact .inl (own_setP x.len q)
  · rw [q]; exact .inr (f1.ne n1)⟩
/-! x = y, y an own list, which is one no more -/
def moveF (i j : Nat) : Env → Option Out := fun ρ => match ρ[j]? with
  | some (.ow ds) => some (.nx ((ρ.set j (Sl.pu ds)).set i (Sl.pu ds)))
  | _ => none
theorem sd_move {i j : Nat} {x y : Str} {pos' py : Pos} (h : PE X (.Name y py) (tVar j)) (hp : PE X (.Name y py) (tVar j) → PS X (.Assign [.Name x pos'] (.Name y py) pos) (tAsg (tVar j) (gName i))) : StD X (.Assign [.Name x pos'] (.Name y py) pos) (tAsg (tVar j) (gName i)) (moveF i j) := ⟨hp h, fun ρ o ee G H σ x De k => by
  unfold moveF at ee
  split at ee
  · rename_i ds h1
    cases ee
    obtain ⟨p, ob, h2, h3, h4, h5⟩ := x.ow j ds h1
    refine ⟨_, h2, ?_⟩
    have hj : j < ρ.length := (List.getElem?_eq_some_iff.mp h1).1
    have g2 : Ex (upd G p ob) H := fun a o z => by
      by_cases q : a = p
      · rw [q, upd_same] at z; rw [q]; cases z; exact h4
      · rw [upd_ne q] at z; exact x.gh _ _ z
    have rp : Rep (upd G p ob) ds (.ref p) := h5.rep (Ex.new h3) upd_same
    have oth : ∀ {l : Nat} {s : Sl}, j ≠ l → (ρ.set j (Sl.pu ds))[l]? = some s → ρ[l]? = some s := fun {l s} n e => by rwa [List.getElem?_set_ne n] at e
    have ne : ∀ {l : Nat} {es : D}, (ρ.set j (Sl.pu ds))[l]? = some (Sl.ow es) → j ≠ l := fun {l es} h e => by
      subst e
      rw [List.getElem?_set_self hj] at h
      cases h
    have x2 : EnvOk (upd G p ob) H σ (ρ.set j (Sl.pu ds)) := by
      refine ⟨g2, by rw [List.length_set]; exact x.len, fun l e h => ?_, fun l es h => ?_, fun l m es fs q a1 a2 a3 a4 => x.inj l m es fs q (oth (ne a1) a1) (oth (ne a2) a2) a3 a4⟩
      · by_cases n : j = l
        · subst n
          rw [List.getElem?_set_self hj] at h
          cases h
          exact ⟨_, h2, rp⟩
        · obtain ⟨v, b1, b2⟩ := x.pu l e (oth n h)
          exact ⟨v, b1, b2.mono (Ex.new h3)⟩
      · obtain ⟨q, o2, b1, b2, b3, b4⟩ := x.ow l es (oth (ne h) h)
        have : q ≠ p := fun e => ne h (x.inj j l ds es p h1 (oth (ne h) h) h2 (e ▸ b1))
        exact ⟨q, o2, b1, by rw [upd_ne this]; exact b2, b3, b4.mono (Ex.new h3)⟩
    have own : Own σ ρ p := ⟨j, ds, h1, h2⟩
    refine k _ _ H (x2.setP rp i) ⟨Ex.new h3, fun a o z _ => z, fun a z1 z2 z3 => ?_, fun a z => ?_, ObK.trans (obk_same fun _ _ _ z => by cases z) (obk_set fun _ _ _ z => by cases z)⟩
    · have : a ≠ p := fun q => z3 (q ▸ own)
      rw [upd_ne this]; exact z2
    · obtain ⟨l, es, b1, b2⟩ := own_setP x2.len z
      exact .inl ⟨l, es, oth (ne b1) b1, b2⟩
  · cases ee⟩
theorem pu_dnew : PuD X (.Dict [] [] pos) tDNewK (kD (.dct [] [])) := ⟨pe_dnewK, fun ρ d ee G H σ x Q k => by
  cases ee
  exact fun p np => k _ _ _ (.new x.gh np) (.dc (us := []) upd_same rfl (by decide) .nil)⟩
/-! reversed slices -/
def revO (φ : Env → Option D) : Env → Option (List D) := fun ρ => (φ ρ).bind fun d => match d with
  | .seq true ds => some ds.reverse
  | _ => none
theorem ow_rev {k : Nat} {p1 p2 p3 : Pos} (h : ViD X a ta φa) : OwD X (.Subscript a (.Slice none none (some (.UnaryOp .USub (.Constant (.int 1) k p1) p2)) p3) pos) (tRevL X.K ta) (revO φa) := ⟨pe_revL h.pe, fun ρ z ee G H σ x Q kk => by
  obtain ⟨d, e1, e2⟩ := Option.bind_eq_some_iff.mp ee
  refine h.ev ρ d e1 G H σ x _ fun v G1 H1 f1 r1 => ?_
  split at e2
  · cases e2
    obtain ⟨p, us, rfl, h1, l1, q1⟩ := r1.seq f1.gh
    exact ⟨p, us, rfl, SqL.of h1, fun q nq => kk q us.reverse G1 _ (f1.trans (.tmp f1.gh nq)) (f1.ne nq) (f1.gh.back nq) upd_same (by rw [List.length_reverse]; exact l1) q1.rev⟩
  · cases e2⟩
end
end L2.Tr

/-! Trees: instances: fields, methods, __init__; dicts that are filled. -/
namespace L2.Tr
open PySem PySem.Spec PyProof.Rows
section
variable {X : Cx} {e e2 o tg a b c : Expr} {es : List Expr} {t t' ta tb tc te : TE} {φ φ' φa φb φc : Env → Option D} {ψ : Env → Option (List D)} {pos : Pos} {Φ : Env → Option Out}
/-! ### fields -/
def getS : List Str → List D → Str → Option D
  | n :: ns, d :: ds, f => if (f == n) = true then some d else getS ns ds f
  | _, _, _ => none
theorem getS_rep {H : Hp} {f : Str} {d : D} : ∀ {ns : List Str} {ds : List D} {us : List V}, Reps H ds us → getS ns ds f = some d → ∃ u, (ns.zip us).lookup f = some u ∧ Rep H d u
  | [], ds, us, h, e => by simp [getS] at e
  | k :: ks, [], us, h, e => by simp [getS] at e
  | k :: ks, d0 :: ds, us, h, e => by
    obtain ⟨u, r, rfl, q, t⟩ := h.un
    rw [getS] at e
    rw [List.zip_cons_cons, List.lookup_cons]
    split at e
    · rename_i hk
      cases e
      rw [hk]
      exact ⟨u, rfl, q⟩
    · rename_i hk
      have hk' : (f == k) = false := by simpa using hk
      rw [hk']
      exact getS_rep t e
def fldD (C0 : Addr) (f : Str) : D → Option D
  | .obj C ns ds => if C = C0 then getS ns ds f else none
  | _ => none
def fldF (C0 : Addr) (f : Str) (φ : Env → Option D) : Env → Option D := fun ρ => (φ ρ).bind (fldD C0 f)
theorem pu_fld {C0 : Addr} {f : Str} (cl : Cls X.K C0) (n : NoAttr X.K C0 f) (h : ViD X e t φ) (hb : attributeBase e f X.env (eval e X.env) = eval e X.env := by rfl) : PuD X (.Attribute e f pos) (tFld X.K t f) (fldF C0 f φ) := ⟨pe_fld h.pe hb, fun ρ d ee G H σ x Q k => by
  obtain ⟨d1, e1, e2⟩ := Option.bind_eq_some_iff.mp ee
  refine h.ev ρ d1 e1 G H σ x _ fun v G1 H1 f1 r1 => ?_
  unfold fldD at e2
  split at e2
  · split at e2
    · rename_i hC
      subst hC
      obtain ⟨p, dx, us, rfl, h1, h2, h3⟩ := r1.obj f1.gh
      obtain ⟨u, h4, h5⟩ := getS_rep h3 e2
      exact ⟨p, _, dx, _, u, rfl, h1, cl, n, h4, k u G1 H1 f1 h5⟩
    · cases e2
  · cases e2⟩
/-- o.f = e, o an own instance -/
def putS : List Str → List D → Str → D → List Str × List D
  | n :: ns, x :: xs, f, d => if n = f then (n :: ns, d :: xs) else (n :: (putS ns xs f d).1, x :: (putS ns xs f d).2)
  | _, _, f, d => ([f], [d])
theorem putS_rep {G : Hp} {f : Str} {d : D} {v : V} (r : Rep G d v) : ∀ {ns : List Str} {ds : List D} {us : List V}, Reps G ds us → ns.length = ds.length →
    ∃ us', putF f v (ns.zip us) = (putS ns ds f d).1.zip us' ∧ (putS ns ds f d).1.length = (putS ns ds f d).2.length ∧ Reps G (putS ns ds f d).2 us'
  | [], [], us, h, _ => by rw [h.un0]; exact ⟨[v], rfl, rfl, .cons r .nil⟩
  | n :: ns, x :: xs, us, h, hl => by
    obtain ⟨u, us1, rfl, q, t⟩ := h.un
    rw [List.zip_cons_cons, putF, putS]
    by_cases hn : n = f
    · rw [if_pos hn, if_pos hn]
      exact ⟨v :: us1, rfl, hl, .cons r t⟩
    · rw [if_neg hn, if_neg hn]
      obtain ⟨us', h1, h2, h3⟩ := putS_rep r t (by simpa using hl)
      exact ⟨u :: us', by rw [h1]; rfl, by show _ + 1 = _ + 1; rw [h2], .cons q h3⟩
  | [], x :: xs, us, h, hl => by simp at hl
  | n :: ns, [], us, h, hl => by simp at hl
def sfldF (i : Nat) (C0 : Addr) (f : Str) (φ : Env → Option D) : Env → Option Out := fun ρ => match ρ[i]? with
  | some (.ow (.obj C ns ds)) => if C = C0 ∧ ns.length < 100 then (φ ρ).map fun d => .nx (ρ.set i (Sl.ow (.obj C (putS ns ds f d).1 (putS ns ds f d).2))) else none
  | _ => none
theorem sd_fld {i : Nat} {C0 : Addr} {f : Str} {pos' : Pos} (cl : Cls X.K C0) (n : NoAttr X.K C0 f) (ho : PE X o (tVar i)) (h : PuD X e t φ) (hs : swapsWith e (some (.Attribute o f pos')) pos.line X.env = pure false := by rfl) :
    StD X (.Assign [.Attribute o f pos'] e pos) (sFld X.K (tVar i) t f) (sfldF i C0 f φ) := ⟨ps_fld ho h.pe hs, fun ρ out ee G H σ x De k => by
  unfold sfldF at ee
  split at ee
  · rename_i C ns ds h1
    split at ee
    · rename_i hC
      obtain ⟨rfl, hl⟩ := hC
      obtain ⟨d, e1, rfl⟩ := Option.map_eq_some_iff.mp ee
      obtain ⟨p, ob, h2, h3, h4, dx, us, rfl, h5, h6⟩ := x.ow i _ h1
      refine h.ev ρ d e1 G H σ x _ fun v G1 H1 f1 r1 => ⟨_, h2, p, C, dx, ns.zip us, rfl, f1.h _ _ h4, cl, n, ?_, ?_⟩
      · rw [List.length_zip]; omega
      · obtain ⟨us', g1, g2, g3⟩ := putS_rep (f := f) r1 (h6.mono f1.g) h5
        have g := grow_ok (x.mono f1) (fun _ _ _ _ => ⟨C, ns, ds, rfl⟩) (ys := .obj C (putS ns ds f d).1 (putS ns ds f d).2) (ob := .ins C dx (putF f v (ns.zip us))) h1 h2 ⟨dx, us', by rw [g1], g2, g3⟩
        exact k σ G1 _ g.1 ((FrS.of f1).trans g.2)
    · cases ee
  · cases ee⟩
/-! ### methods -/
structure Mth (P : Program) (w : World) (K : PySem.W.Frag) (mg : Str → Option Value) (base : Heap) (C : Addr) (m : Str) (k : Nat) (f : List D → Option D) : Prop where
  ex : ∃ (a : Addr) (fd : FuncData) (ps : List Str), Cls K C ∧ Meth K C m a ∧ FnOk P w K mg base CX0 k a fd ps (spP f) ∧ Binds K fd ps []
theorem lookup_off {f : Str} : ∀ {ns : List Str} {us : List V}, f ∉ ns → (ns.zip us).lookup f = none
  | [], us, h => rfl
  | n :: ns, [], h => rfl
  | n :: ns, u :: us, h => by
    have h1 : (f == n) = false := beq_eq_false_iff_ne.mpr fun z => h (z ▸ List.mem_cons_self)
    rw [List.zip_cons_cons, List.lookup_cons, h1]
    exact lookup_off fun z => h (List.mem_cons_of_mem _ z)
def metD (C0 : Addr) (m : Str) (f : List D → Option D) (x : D) (xs : List D) : Option D := match x with
  | .obj C ns _ => if C = C0 ∧ m ∉ ns then f (x :: xs) else none
  | _ => none
def metF (C0 : Addr) (m : Str) (f : List D → Option D) (φ : Env → Option D) (ψ : Env → Option (List D)) : Env → Option D := fun ρ => (φ ρ).bind fun x => (ψ ρ).bind fun xs => metD C0 m f x xs
theorem met_ev {C0 : Addr} {m : Str} {f : List D → Option D} {tr : TA} (ho : PuS t φ) (ha : ArS tr ψ) : PuS (tMeth C0 m (spP f) [] E0 t tr) (metF C0 m f φ ψ) := fun ρ d ee G H σ x Q k => by
  obtain ⟨d1, e1, ee⟩ := Option.bind_eq_some_iff.mp ee
  obtain ⟨xs, e2, e3⟩ := Option.bind_eq_some_iff.mp ee
  refine ho ρ d1 e1 G H σ x _ fun v G1 H1 f1 r1 => ?_
  unfold metD at e3
  split at e3
  · split at e3
    · rename_i C ns ds hC
      obtain ⟨rfl, hm⟩ := hC
      obtain ⟨p, dx, us, rfl, h1, h2, h3⟩ := r1.un_obj
      refine ⟨p, dx, _, rfl, f1.gh _ _ h1, lookup_off hm, ?_⟩
      refine ha ρ xs e2 G1 H1 σ (x.mono f1) _ fun vs G2 H2 f2 r2 => ?_
      exact ⟨G2, _, d, f2.gh, by rw [List.append_nil]; exact .cons (r1.mono f2.g) r2, e3, fun v G3 H3 f3 r3 => k v G3 H3 (f1.trans (f2.trans f3)) r3⟩
    · cases e3
  · cases e3
theorem pu_meth {C0 : Addr} {m : Str} {k : Nat} {f : List D → Option D} {tr : TA} {apos : Pos} {pl : Sem Bool} (M : Mth X.prog X.w X.K X.mg X.base C0 m k f) (hr : Room k X.A) (ho : PuD X o t φ) (ha : ArD X (e :: es) tr ψ)
    (hst : starEach (e :: es) X.env = (false, eval e X.env) :: starEach es X.env := by rfl) (hpl : (backTo pos (starEach es X.env)).any (·.1) = false := by rfl)
    (ht : eval (.Call (.Attribute o m apos) (e :: es) [] pos) X.env = (do
      let ov ← eval o X.env
      standAt apos.atName
      let (f, first) ← holding [ov] (getMethod ov m pl)
      callWith pos f first (backTo pos (starEach (e :: es) X.env)) (backToKw pos (keywordEach [] X.env))) := by rfl) :
    PuD X (.Call (.Attribute o m apos) (e :: es) [] pos) (tMeth C0 m (spP f) [] E0 t tr) (metF C0 m f φ ψ) := by
  obtain ⟨a, fd, ps, c1, c2, c3, c4⟩ := M.ex
  exact ⟨pe_meth ho.pe c1 c2 c3 hr c4 .nil pass0 ha.pa hst hpl ht, met_ev ho.ev ha.ev⟩
theorem pu_meth0 {C0 : Addr} {m : Str} {k : Nat} {f : List D → Option D} {apos : Pos} {pl : Sem Bool} (M : Mth X.prog X.w X.K X.mg X.base C0 m k f) (hr : Room k X.A) (ho : PuD X o t φ)
    (ht : eval (.Call (.Attribute o m apos) [] [] pos) X.env = (do
      let ov ← eval o X.env
      standAt apos.atName
      let (f, first) ← holding [ov] (getMethod ov m pl)
      callWith pos f first (backTo pos (starEach [] X.env)) (backToKw pos (keywordEach [] X.env))) := by rfl) :
    PuD X (.Call (.Attribute o m apos) [] [] pos) (tMeth C0 m (spP f) [] E0 t tNil) (metF C0 m f φ nilD) := by
  obtain ⟨a, fd, ps, c1, c2, c3, c4⟩ := M.ex
  exact ⟨pe_meth0 ho.pe c1 c2 c3 hr c4 .nil pass0 ht, met_ev ho.ev (ar_nil (X := X)).ev⟩
/-! a def that hands back a new list -/
def spO (f : List D → Option (List D)) : Sp := fun vs H Q _ => ∃ (G : Hp) (ds zs : List D), Ex G H ∧ Reps G ds vs ∧ f ds = some zs ∧
  ∀ p us G2 H2, Fr G H G2 H2 → H p = none → G2 p = none → H2 p = some (.lst us) → zs.length ≤ Lim → Reps G2 zs us → Q (.ref p) H2
structure MthO (P : Program) (w : World) (K : PySem.W.Frag) (mg : Str → Option Value) (base : Heap) (C : Addr) (m : Str) (k : Nat) (f : List D → Option (List D)) : Prop where
  ex : ∃ (a : Addr) (fd : FuncData) (ps : List Str), Cls K C ∧ Meth K C m a ∧ FnOk P w K mg base CX0 k a fd ps (spO f) ∧ Binds K fd ps []
def metDO (C0 : Addr) (m : Str) (f : List D → Option (List D)) (x : D) (xs : List D) : Option (List D) := match x with
  | .obj C ns _ => if C = C0 ∧ m ∉ ns then f (x :: xs) else none
  | _ => none
def metFO (C0 : Addr) (m : Str) (f : List D → Option (List D)) (φ : Env → Option D) : Env → Option (List D) := fun ρ => (φ ρ).bind fun x => metDO C0 m f x []
theorem ow_meth0 {C0 : Addr} {m : Str} {k : Nat} {f : List D → Option (List D)} {apos : Pos} {pl : Sem Bool} (M : MthO X.prog X.w X.K X.mg X.base C0 m k f) (hr : Room k X.A) (ho : PuD X o t φ)
    (ht : eval (.Call (.Attribute o m apos) [] [] pos) X.env = (do
      let ov ← eval o X.env
      standAt apos.atName
      let (f, first) ← holding [ov] (getMethod ov m pl)
      callWith pos f first (backTo pos (starEach [] X.env)) (backToKw pos (keywordEach [] X.env))) := by rfl) :
    OwD X (.Call (.Attribute o m apos) [] [] pos) (tMeth C0 m (spO f) [] E0 t tNil) (metFO C0 m f φ) := by
  obtain ⟨a, fd, ps, c1, c2, c3, c4⟩ := M.ex
  refine ⟨pe_meth0 ho.pe c1 c2 c3 hr c4 .nil pass0 ht, fun ρ z ee G H σ x Q k => ?_⟩
  obtain ⟨d1, e1, e3⟩ := Option.bind_eq_some_iff.mp ee
  refine ho.ev ρ d1 e1 G H σ x _ fun v G1 H1 f1 r1 => ?_
  unfold metDO at e3
  split at e3
  · split at e3
    · rename_i C ns ds hC
      obtain ⟨rfl, hm⟩ := hC
      obtain ⟨p, dx, us, rfl, h1, h2, h3⟩ := r1.un_obj
      refine ⟨p, dx, _, rfl, f1.gh _ _ h1, lookup_off hm, ?_⟩
      exact ⟨G1, [_], z, f1.gh, .cons r1 .nil, e3, fun q us G2 H2 f2 n1 n2 h l r => k q us G2 H2 (f1.trans f2) (f1.ne n1) n2 h l r⟩
    · cases e3
  · cases e3
theorem env0_own {n : Nat} {ds : List D} {i : Nat} {d : D} (h : (env0 n ds)[i]? = some (Sl.ow d)) : False := by
  unfold env0 at h
  rw [List.getElem?_append] at h
  split at h
  · rw [List.getElem?_map] at h
    cases e : ds[i]? with
    | none => rw [e] at h; cases h
    | some d => rw [e] at h; cases h
  · rw [List.getElem?_replicate] at h
    split at h <;> cases h
theorem ok_retO {P : Program} {w : World} {K : PySem.W.Frag} {mg : Str → Option Value} {base : Heap} {x qual : Str} {st : Stmt} {f : Addr} {fd : FuncData} {N ps : List Str} {k : Nat} {ψ : Env → Option (List D)} {e : Expr} {pos : Pos} (F : Fun K x qual st f fd) (S : FnScope N ps (defScope st)) (hB : defBody st = [.Return (some e) pos])
    (hb : ∀ (cdv : Value) (A : Around) (outer : List PySem.Env) (s : Shared) (H : Hp) (E : XK), Room k (A.deeper (envOfC qual (defScope st) s.heap.objs.size f cdv)) → ∃ t, OwD (cxOf CX0 P w K mg base N qual (defScope st) f cdv A outer s H E).nox e t ψ) :
    FnOk P w K mg base CX0 (k + 1) f fd ps (spO fun ds => if ds.length = ps.length then ψ (env0 N.length ds) else none) := by
  refine F.ok S (fun vs H Q E h => ?_) (fun cdv A outer s H vs Q E hr h => ?_)
  · obtain ⟨G, ds, d, x, r, e, _⟩ := h
    have e : (if ds.length = ps.length then ψ (env0 N.length ds) else none) = some d := e
    split at e
    · rename_i hl; rw [r.len, hl]
    · cases e
  · obtain ⟨G, ds, d, x, r, e, q⟩ := h
    have e : (if ds.length = ps.length then ψ (env0 N.length ds) else none) = some d := e
    obtain ⟨t, b⟩ := hb cdv A outer s H E hr
    refine ⟨tRet t, by rw [hB]; exact pss_one (ps_ret b.pe), ?_⟩
    split at e
    · exact b.ev _ d e G H _ (env0_ok x (N := N) r) _ fun p us G2 H2 f n1 n2 h l r => q p us G2 H2 f n1 n2 h l r
    · cases e
/-! ### making -/
def spI (C : Addr) (f : List D → Option (List Str × List D)) : Sp := fun vs H Q _ => ∃ (G : Hp) (ds : List D) (p dx : Addr) (us : List V) (ns : List Str) (es : List D), vs = .ref p :: us ∧ G p = none ∧ H p = some (.ins C dx []) ∧ Ex G H ∧ Reps G ds us ∧ f ds = some (ns, es) ∧
  ∀ G2 H2 dx2 ws, Ex G G2 → Ex G2 H2 → (∀ a o, H a = some o → a ≠ p → H2 a = some o) → (∀ a, H a ≠ none → G a = none → a ≠ p → G2 a = none) → G2 p = none → H2 p = some (.ins C dx2 (ns.zip ws)) → ns.length = es.length → Reps G2 es ws → Q .non H2
structure Mkr (P : Program) (w : World) (K : PySem.W.Frag) (mg : Str → Option Value) (base : Heap) (x : Str) (C : Addr) (k : Nat) (f : List D → Option (List Str × List D)) : Prop where
  ex : ∃ (a : Addr) (fd : FuncData) (ps : List Str), Mk K C a ∧ mg x = some (.ref C) ∧ FnOk P w K mg base CX0 k a fd ps (spI C f) ∧ Binds K fd ps []
def mkD (C : Addr) (f : List D → Option (List Str × List D)) : List D → Option D := fun ds => (f ds).map fun r => .obj C r.1 r.2
theorem pu_make {x : Str} {C : Addr} {k : Nat} {f : List D → Option (List Str × List D)} {p : Pos} {tr : TA} (h : Mkr X.prog X.w X.K X.mg X.base x C k f) (hr : Room (k + 1) X.A) (hg : Gl X x) (ha : ArD X (e :: es) tr ψ) (hdb : (x == ("__debug__" : Str)) = false := by decide)
    (he : starEach (e :: es) X.env = (false, eval e X.env) :: starEach es X.env := by rfl) (hpl : (backTo pos (starEach es X.env)).any (·.1) = false := by rfl) :
    PuD X (.Call (.Name x p) (e :: es) [] pos) (tMake C (spI C f) [] E0 tr) (app1 (mkD C f) ψ) := by
  obtain ⟨a, fd, ps, M, h1, F, h3⟩ := h.ex
  refine ⟨pe_make M F hr hg h1 h3 .nil pass0 ha.pa hdb he hpl, fun ρ d ee G H σ x Q k => ?_⟩
  obtain ⟨ds, e1, e2⟩ := Option.bind_eq_some_iff.mp ee
  obtain ⟨⟨ns, zs⟩, e3, rfl⟩ := Option.map_eq_some_iff.mp e2
  refine ha.ev ρ ds e1 G H σ x _ fun vs G1 H1 f1 r1 => fun y dx ny ndx nex => ?_
  have e5 : Ex H1 (upd (upd H1 dx (.own y)) y (.ins C dx [])) := (Ex.new ndx).trans (Ex.new (by rw [upd_ne (Ne.symm nex)]; exact ny))
  refine ⟨G1, ds, y, dx, vs, ns, zs, by rw [List.append_nil], f1.gh.back ny, upd_same, f1.gh.trans e5, r1, e3, fun G2 H2 dx2 ws g1 g2 g3 g4 g5 g6 g7 g8 => ⟨rfl, ?_⟩⟩
  have e6 : Ex H1 H2 := fun c o z => g3 c o (e5 c o z) (ne_of_none z ny)
  refine k (.ref y) (upd G2 y (.ins C dx2 (ns.zip ws))) H2 (f1.trans ⟨g1.trans (Ex.new g5), fun c o z => ?_, e6, fun c z1 z2 => ?_⟩) (.ob upd_same g7 (g8.mono (Ex.new g5)))
  · by_cases q : c = y
    · rw [q, upd_same] at z; cases z; rw [q]; exact g6
    · rw [upd_ne q] at z; exact g2 _ _ z
  · obtain ⟨o, ho⟩ := Option.ne_none_iff_exists'.mp z1
    have hc : c ≠ y := fun q => z1 (q ▸ ny)
    rw [upd_ne hc]
    exact g4 c (by rw [e5 c o ho]; exact fun q => by cases q) z2 hc
def envI (n : Nat) (C : Addr) (ds : List D) : Env := Sl.ow (.obj C [] []) :: env0 (n - 1) ds
def initF (n : Nat) (C : Addr) (Φ : Env → Option Out) : List D → Option (List Str × List D) := fun ds => (Φ (envI n C ds)).bind fun (o : Out) => match o with
  | .nx ρ2 => match (ρ2[0]? : Option Sl) with
    | some (Sl.ow (D.obj C' ns es)) => if C' = C then some (ns, es) else none
    | _ => none
  | _ => none
end
end L2.Tr

/-! Trees: __init__, own dicts, own things that are handed on. -/
namespace L2.Tr
open PySem PySem.Spec PyProof.Rows
section
variable {X : Cx} {e e2 o tg a b c : Expr} {es : List Expr} {t t' ta tb tc te : TE} {φ φ' φa φb φc : Env → Option D} {ψ : Env → Option (List D)} {pos : Pos} {Φ : Env → Option Out} {st : Stmt} {ts : TS}
theorem EnvOk.consO {G H : Hp} {σ : St} {ρ : Env} (x : EnvOk G H σ ρ) (no : ∀ (i : Nat) (d : D), ρ[i]? = some (Sl.ow d) → False) {p : Addr} {d : D} {ob : HO} (n : G p = none) (hp : H p = some ob) (r : Top G d ob) : EnvOk G H (some (.ref p) :: σ) (Sl.ow d :: ρ) := by
  refine ⟨x.gh, by rw [List.length_cons, List.length_cons, x.len], fun i e h => ?_, fun i e h => ?_, fun i j e f q h1 h2 h3 h4 => ?_⟩
  · cases i with
    | zero => cases h
    | succ i => exact x.pu i e (by simpa using h)
  · cases i with
    | zero => cases h; exact ⟨p, ob, rfl, n, hp, r⟩
    | succ i => exact (no i e (by simpa using h)).elim
  · cases i with
    | zero =>
      cases j with
      | zero => rfl
      | succ j => exact (no j f (by simpa using h2)).elim
    | succ i => exact (no i e (by simpa using h1)).elim
theorem ok_init {P : Program} {w : World} {K : PySem.W.Frag} {mg : Str → Option Value} {base : Heap} {x qual : Str} {params : Arguments} {body : List Stmt} {scope : Scope} {dvs : List V} {kws : List (Str × V)} {f : Addr} {fd : FuncData} {n0 : Str} {N ps : List Str} {k : Nat} {C : Addr} {Φ : Env → Option Out}
    (F : FunD K x qual params body scope dvs kws f fd) (S : FnScope (n0 :: N) ps scope)
    (hb : ∀ (cdv : Value) (A : Around) (outer : List PySem.Env) (s : Shared) (H : Hp) (E : XK), Room k (A.deeper (envOfC qual scope s.heap.objs.size f cdv)) → ∃ t, SsD (cxOf CX0 P w K mg base (n0 :: N) qual scope f cdv A outer s H E).nox body t Φ) :
    FnOk P w K mg base CX0 (k + 1) f fd ps (spI C fun ds => if ds.length + 1 = ps.length then initF (n0 :: N).length C Φ ds else none) := by
  refine F.ok S (fun vs H Q E h => ?_) (fun cdv A outer s H vs Q E hr h => ?_)
  · obtain ⟨G, ds, p, dx, us, ns, es, rfl, _, _, _, r, e, _⟩ := h
    have e : (if ds.length + 1 = ps.length then initF (n0 :: N).length C Φ ds else none) = some (ns, es) := e
    split at e
    · rename_i hl; rw [List.length_cons, r.len, hl]
    · cases e
  · obtain ⟨G, ds, p, dx, us, ns, es, rfl, np, hp, x, r, e, q⟩ := h
    have e : (if ds.length + 1 = ps.length then initF (n0 :: N).length C Φ ds else none) = some (ns, es) := e
    obtain ⟨t, b⟩ := hb cdv A outer s H E hr
    refine ⟨t, b.ps.nox, ?_⟩
    split at e
    · obtain ⟨o, e1, e2⟩ := Option.bind_eq_some_iff.mp e
      have x0 : EnvOk G H (start (n0 :: N) (.ref p :: us)) (envI (n0 :: N).length C ds) := by
        have h0 := (env0_ok x (N := N) r).consO (fun i d h => env0_own h) (d := .obj C [] []) np hp ⟨dx, [], rfl, rfl, .nil⟩
        have e3 : start (n0 :: N) (.ref p :: us) = some (.ref p) :: start N us := by
          unfold start
          rw [List.length_cons, List.length_cons, Nat.add_sub_add_right]
          rfl
        rw [e3]
        exact h0
      have own1 : ∀ a, Own (start (n0 :: N) (.ref p :: us)) (envI (n0 :: N).length C ds) a → a = p := fun a ⟨i, d, h1, h2⟩ => by
        cases i with
        | zero =>
          have : some (some (V.ref p)) = some (some (V.ref a)) := h2
          cases this
          rfl
        | succ i => exact (env0_own (show (env0 N.length ds)[i]? = some (Sl.ow d) from by simpa [envI] using h1)).elim
      refine b.ev _ o e1 G H _ x0 _ ?_
      cases o with
      | nx ρ2 =>
        dsimp only at e2
        split at e2
        · rename_i C' ns' es' h1
          split at e2
          · rename_i hC
            subst hC
            cases e2
            intro σ2 G2 H2 x2 f2
            obtain ⟨p2, ob, g1, g2, g3, dx2, ws, rfl, g4, g5⟩ := x2.ow 0 _ h1
            have hp2 : p2 = p := by
              have h0 := (f2.ob 0 _ _ _ h1).1
              rw [g1] at h0
              have h1 : some (some (V.ref p2)) = some (some (V.ref p)) := h0
              cases h1
              rfl
            subst hp2
            exact q G2 H2 dx2 ws f2.g x2.gh (fun a o h n => f2.h a o h fun z => n (own1 a z)) (fun a h1 h2 n => f2.nw a h1 h2 fun z => n (own1 a z)) g2 g3 g4 g5
          · cases e2
        · cases e2
      | rt d => cases e2
      | bk ρ2 => cases e2
      | ct ρ2 => cases e2
    · cases e
/-! ### an own thing is one no more -/
def frzE (j : Nat) (ρ : Env) : Option Env := match ρ[j]? with
  | some (.ow d) => some (ρ.set j (Sl.pu d))
  | _ => none
theorem frz_ok {G H : Hp} {σ : St} {ρ ρ2 : Env} {j : Nat} (x : EnvOk G H σ ρ) (h : frzE j ρ = some ρ2) : ∃ G2, EnvOk G2 H σ ρ2 ∧ FrS σ ρ G H σ ρ2 G2 H := by
  unfold frzE at h
  split at h
  · rename_i ds h1
    cases h
    obtain ⟨p, ob, h2, h3, h4, h5⟩ := x.ow j ds h1
    have hj : j < ρ.length := (List.getElem?_eq_some_iff.mp h1).1
    have g2 : Ex (upd G p ob) H := fun a o z => by
      by_cases q : a = p
      · rw [q, upd_same] at z; rw [q]; cases z; exact h4
      · rw [upd_ne q] at z; exact x.gh _ _ z
    have rp : Rep (upd G p ob) ds (.ref p) := h5.rep (Ex.new h3) upd_same
    have oth : ∀ {l : Nat} {s : Sl}, j ≠ l → (ρ.set j (Sl.pu ds))[l]? = some s → ρ[l]? = some s := fun {l s} n e => by rwa [List.getElem?_set_ne n] at e
    have ne : ∀ {l : Nat} {es : D}, (ρ.set j (Sl.pu ds))[l]? = some (Sl.ow es) → j ≠ l := fun {l es} h e => by
      subst e
      rw [List.getElem?_set_self hj] at h
      cases h
    have x2 : EnvOk (upd G p ob) H σ (ρ.set j (Sl.pu ds)) := by
      refine ⟨g2, by rw [List.length_set]; exact x.len, fun l e h => ?_, fun l es h => ?_, fun l m es fs q a1 a2 a3 a4 => x.inj l m es fs q (oth (ne a1) a1) (oth (ne a2) a2) a3 a4⟩
      · by_cases n : j = l
        · subst n
          rw [List.getElem?_set_self hj] at h
          cases h
          exact ⟨_, h2, rp⟩
        · obtain ⟨v, b1, b2⟩ := x.pu l e (oth n h)
          exact ⟨v, b1, b2.mono (Ex.new h3)⟩
      · obtain ⟨q, o2, b1, b2, b3, b4⟩ := x.ow l es (oth (ne h) h)
        have : q ≠ p := fun e => ne h (x.inj j l ds es p h1 (oth (ne h) h) h2 (e ▸ b1))
        exact ⟨q, o2, b1, by rw [upd_ne this]; exact b2, b3, b4.mono (Ex.new h3)⟩
    have own : Own σ ρ p := ⟨j, ds, h1, h2⟩
    refine ⟨_, x2, Ex.new h3, fun a o z _ => z, fun a z1 z2 z3 => ?_, fun a z => ?_, obk_same fun _ _ _ z => by cases z⟩
    · have : a ≠ p := fun q => z3 (q ▸ own)
      rw [upd_ne this]; exact z2
    · obtain ⟨l, es, b1, b2⟩ := z
      exact .inl ⟨l, es, oth (ne b1) b1, b2⟩
  · cases h
def frzF (j : Nat) (Φ : Env → Option Out) : Env → Option Out := fun ρ => (frzE j ρ).bind Φ
theorem sd_frz (j : Nat) (h : StD X st ts Φ) : StD X st ts (frzF j Φ) := ⟨h.ps, fun ρ o ee G H σ x De k => by
  obtain ⟨ρ2, e1, e2⟩ := Option.bind_eq_some_iff.mp ee
  obtain ⟨G2, x2, f2⟩ := frz_ok x e1
  refine h.ev ρ2 o e2 G2 H σ x2 De ?_
  cases o with
  | nx ρ3 => exact fun σ3 G3 H3 x3 f3 => k σ3 G3 H3 x3 (f2.trans f3)
  | bk ρ3 => exact fun σ3 G3 H3 x3 f3 => k σ3 G3 H3 x3 (f2.trans f3)
  | ct ρ3 => exact fun σ3 G3 H3 x3 f3 => k σ3 G3 H3 x3 (f2.trans f3)
  | rt d => exact fun v G3 H3 f3 r3 => k v G3 H3 (f2.transR f3) r3⟩
/-! ### own dicts -/
def dnewF (i : Nat) : Env → Option Out := fun ρ => some (.nx (ρ.set i (Sl.ow (.dct [] []))))
theorem sd_dnew {i : Nat} {x : Str} {pos' pos2 : Pos} (hp : PE X (.Dict [] [] pos2) tDNewK → PS X (.Assign [.Name x pos'] (.Dict [] [] pos2) pos) (tAsg tDNewK (gName i))) : StD X (.Assign [.Name x pos'] (.Dict [] [] pos2) pos) (tAsg tDNewK (gName i)) (dnewF i) := ⟨hp pe_dnewK, fun ρ o ee G H σ x De k => by
  cases ee
  intro p np
  have f1 : Fr G H G (upd H p (.dK [])) := .tmp x.gh np
  refine k _ G _ ((x.mono f1).setO i (x.gh.back np) upd_same ⟨[], rfl, rfl, by decide, .nil⟩ fun j es _ h1 h2 => own_free x np ⟨j, es, h1, h2⟩) ⟨f1.g, fun a o h _ => f1.h a o h, fun a h1 h2 _ => f1.nw a h1 h2, fun a z => ?_, obk_set fun _ _ _ z => by cases z⟩
  rcases own_setO x.len z with q | q
  · exact .inl q
  · rw [q]; exact .inr np⟩
def memK (k : Key) (ks : List Key) : Bool := ks.any fun x => decide (x = k)
theorem memK_iff {k : Key} {ks : List Key} : memK k ks = true ↔ k ∈ ks := by
  unfold memK
  rw [List.any_eq_true]
  exact ⟨fun ⟨x, h1, h2⟩ => (of_decide_eq_true h2) ▸ h1, fun h => ⟨k, h, decide_eq_true rfl⟩⟩
/-- d[k] = v, k new -/
def dputF (i : Nat) (φk φv : Env → Option D) : Env → Option Out := fun ρ => match ρ[i]? with
  | some (.ow (.dct ks ds)) => (φv ρ).bind fun d => ((φk ρ).bind keyD).bind fun k => if memK k ks = false ∧ ds.length < 1000 then some (.nx (ρ.set i (Sl.ow (.dct (ks ++ [k]) (ds ++ [d]))))) else none
  | _ => none
theorem putK_zip {k : Key} {v : V} {ks : List Key} {us : List V} (h : memK k ks = false) (hl : ks.length = us.length) : putK (ks.zip us) k v = (ks ++ [k]).zip (us ++ [v]) := by
  unfold putK
  rw [if_neg, List.zip_append hl]
  · rfl
  · intro z
    obtain ⟨p, hp, hk⟩ := List.any_eq_true.mp z
    exact (Bool.eq_false_iff.mp h) (memK_iff.mpr ((of_decide_eq_true hk) ▸ (List.of_mem_zip hp).1))
theorem sd_dput {i : Nat} {ik : Expr} {pos' : Pos} (hu : X.A.units + 1 < cLine) (ho : PE X o (tVar i)) (hk : PuD X ik ta φa) (hv : PuD X e t φ) (hs : swapsWith e (some (.Subscript o ik pos')) pos.line X.env = pure false := by rfl) :
    StD X (.Assign [.Subscript o ik pos'] e pos) (sDPut (tVar i) ta t) (dputF i φa φ) := ⟨ps_dput hu ho hk.pe hv.pe hs, fun ρ out ee G H σ x De k => by
  unfold dputF at ee
  split at ee
  · rename_i ks ds h1
    obtain ⟨d, e1, ee⟩ := Option.bind_eq_some_iff.mp ee
    obtain ⟨kk, e2, ee⟩ := Option.bind_eq_some_iff.mp ee
    obtain ⟨dk, e3, e4⟩ := Option.bind_eq_some_iff.mp e2
    split at ee
    · rename_i hl
      cases ee
      obtain ⟨p, ob, h2, h3, h4, us, rfl, h5, h6, h7⟩ := x.ow i _ h1
      refine hv.ev ρ d e1 G H σ x _ fun v G1 H1 f1 r1 => ⟨_, h2, ?_⟩
      refine hk.ev ρ dk e3 G1 H1 σ (x.mono f1) _ fun vk G2 H2 f2 r2 => ?_
      obtain rfl := keyD_kV (G := G2) (H := H2) e4 (.inl r2)
      have f := f1.trans f2
      have hlu : ks.length = us.length := by rw [h5, h7.len]
      refine ⟨p, _, rfl, DPut.k (f.h _ _ h4) ?_, ?_⟩
      · rw [List.length_zip, ← hlu, Nat.min_self, h5, sizeLine_eq]; omega
      · rw [putK_zip hl.1 hlu]
        have g := grow_ok (x.mono f) (fun _ _ _ z => by cases z) (ys := .dct (ks ++ [kk]) (ds ++ [d])) (ob := .dK ((ks ++ [kk]).zip (us ++ [v]))) h1 h2 ⟨_, rfl, by rw [List.length_append, List.length_append, h5]; rfl, by rw [List.length_append]; have : Lim = 5000 := rfl; have : [d].length = 1 := rfl; omega, (h7.mono f.g).app (.cons (r1.mono f2.g) .nil)⟩
        exact k σ G2 _ g.1 ((FrS.of f).trans g.2)
    · cases ee
  · cases ee⟩
/-- k in d -/
def dinB (neg : Bool) : D → D → Option Bool := fun y x => match x with
  | .dct ks _ => (keyD y).map fun k => xor neg (memK k ks)
  | _ => none
theorem valV_mem {k : Key} : ∀ {ks : List Key} {us : List V}, ks.length = us.length → (valV (ks.zip us) k).isSome = memK k ks
  | [], [], _ => rfl
  | x :: ks, u :: us, h => by
    have ih := valV_mem (k := k) (ks := ks) (us := us) (by simpa using h)
    rw [List.zip_cons_cons]
    unfold memK at ih ⊢
    rw [List.any_cons]
    by_cases e : x = k
    · rw [valV_pos e, decide_eq_true e]; rfl
    · rw [valV_neg e, ih, decide_eq_false e]; rfl
  | [], _ :: _, h => by simp at h
  | _ :: _, [], h => by simp at h
theorem te_din (hu : X.A.units + 1 < cLine) (ha : ViD X a ta φa) (hb : ViD X b tb φb) (hm : behindInMarks .In b = false := by with_unfolding_all rfl) : TeD X (.Compare a [.In] [b] pos) (tB (tDIn ta tb)) (bin2 (dinB false) φa φb) := ⟨pt_cmp (pc_din hu ha.pe hb.pe) hm, fun ρ k0 ee G H σ x Q k => by
  obtain ⟨d1, d2, e1, e2, e3⟩ := bin2_un ee
  refine ha.ev ρ d1 e1 G H σ x _ fun v1 G1 H1 f1 r1 => ?_
  refine hb.ev ρ d2 e2 G1 H1 σ (x.mono f1) _ fun v2 G2 H2 f2 r2 => ?_
  unfold dinB at e3
  split at e3
  · rename_i ks ds
    obtain ⟨kk, h1, rfl⟩ := Option.map_eq_some_iff.mp e3
    obtain ⟨p, us, rfl, hp, hl, _, rs⟩ := r2.dct f2.gh
    obtain rfl := keyD_kV h1 (r1.mono f2)
    refine ⟨p, _, rfl, DGet.k hp, _, rfl, ?_⟩
    rw [valV_mem (by rw [hl, rs.len])]
    have := k G2 H2 (f1.trans f2)
    rwa [Bool.false_xor] at this
  · cases e3⟩
theorem pu_din (hu : X.A.units + 1 < cLine) (ha : ViD X a ta φa) (hb : ViD X b tb φb) (hm : behindInMarks .In b = false := by with_unfolding_all rfl) : PuD X (.Compare a [.In] [b] pos) (tDIn ta tb) (fun ρ => (bin2 (dinB false) φa φb ρ).map bD) := ⟨pe_cmp (pc_din hu ha.pe hb.pe) hm, fun ρ k0 ee G H σ x Q k => by
  obtain ⟨kb, e0, rfl⟩ := Option.map_eq_some_iff.mp ee
  obtain ⟨d1, d2, e1, e2, e3⟩ := bin2_un e0
  refine ha.ev ρ d1 e1 G H σ x _ fun v1 G1 H1 f1 r1 => ?_
  refine hb.ev ρ d2 e2 G1 H1 σ (x.mono f1) _ fun v2 G2 H2 f2 r2 => ?_
  unfold dinB at e3
  split at e3
  · rename_i ks ds
    obtain ⟨kk, h1, rfl⟩ := Option.map_eq_some_iff.mp e3
    obtain ⟨p, us, rfl, hp, hl, _, rs⟩ := r2.dct f2.gh
    obtain rfl := keyD_kV h1 (r1.mono f2)
    refine ⟨p, _, rfl, DGet.k hp, ?_⟩
    rw [valV_mem (by rw [hl, rs.len])]
    have := k _ G2 H2 (f1.trans f2) (.lf rfl)
    rwa [Bool.false_xor] at this
  · cases e3⟩
/-! ### in, by an own __contains__ -/
structure Con (P : Program) (w : World) (K : PySem.W.Frag) (mg : Str → Option Value) (base : Heap) (C : Addr) (k : Nat) (f : List D → Option D) : Prop where
  ex : ∃ (a : Addr) (fd : FuncData) (ps : List Str), L2.Vy.Own1 K C a "__contains__" ∧ FnOk P w K mg base CX0 k a fd ps (spP f) ∧ Binds K fd ps []
def conD (neg : Bool) (C0 : Addr) (f : List D → Option D) : D → D → Option D := fun x y => match y with
  | .obj C _ _ => if C = C0 then ((f [y, x]).bind asB).map fun b => bD (neg != b) else none
  | _ => none
theorem r2_con {neg : Bool} {C0 : Addr} {f : List D → Option D} : R2D (L2.Vy.rInO C0 (spP f) neg) (conD neg C0 f) := fun d1 d2 z e G H v1 v2 x r1 r2 Q k => by
  unfold conD at e
  split at e
  · rename_i C ns ds
    split at e
    · rename_i hC
      subst hC
      obtain ⟨b, e1, rfl⟩ := Option.map_eq_some_iff.mp e
      obtain ⟨db, e2, e3⟩ := Option.bind_eq_some_iff.mp e1
      obtain ⟨p, dx, us, rfl, h1, h2, h3⟩ := r2.obj x
      refine ⟨p, dx, _, rfl, h1, H, _, db, Ex.refl _, .cons (r2.rep x) (.cons (r1.rep x) .nil), e2, fun v G2 H2 f2 r => ?_⟩
      unfold asB at e3
      split at e3
      · cases e3
        obtain ⟨rfl, _⟩ := r.un_lf
        exact ⟨b, rfl, k _ G H2 (.of x (f2.g.trans f2.gh)) (.lf rfl)⟩
      · cases e3
    · cases e
  · cases e
end
end L2.Tr

/-! Trees: == and != by an own __eq__. -/
namespace OwC
open PySem PySem.Spec PyProof.Rows PySem.SeqAt PySem.W
section
variable {M : Model} {prog : Program} {w : World} {A : Around} {E : Value → Shared → Prop} {s : Shared} {K : PySem.W.Frag} {x C f : Addr} {ox : Obj} {od : Option Obj} {b tb : Value} {op : CmpOp}
theorem cmp_one {Q : Value → Shared → Prop} (hu : A.units < cLine) (X : K.In s.heap) (I : InstAt s.heap x ox C od) (hb : Looks (model prog w) s.heap (typeOf b) tb) (hn : notFirst K C tb = true)
    (one : wpAny (model prog w) A (tryCompare (.ref x) (cmpInfo op).2.1 b) (fun r s' => ∃ v, r = some v ∧ Q v s') E s) : wpAny (model prog w) A (richCompare op (.ref x) b) Q E s := by
  unfold richCompare
  simp only [oneThing_ref]
  refine wpAny_holding (wpAny_bind (wpAny_cRoomFor hu ?_))
  refine wpAny_bind (I.type.here (wpAny_bind (hb.here ?_)))
  split
  · rename_i q
    have e : subIn K tb (.ref C) = some false := by
      rcases Bool.or_eq_true_iff.mp hn with e | e
      · rw [beq_iff_eq.mp e] at q; simp at q
      · exact beq_iff_eq.mp e
    refine wpAny_bind ((looks_subIn X e).here ?_)
    simp only [Bool.false_eq_true, if_false]
    refine wpAny_bind (wpAny_mono one (fun r s' z => ?_) fun _ _ e => e)
    obtain ⟨v, rfl, hq⟩ := z
    exact wpAny_pure hq
  · refine wpAny_bind (wpAny_pure ?_)
    simp only [Bool.false_eq_true, if_false]
    refine wpAny_bind (wpAny_mono one (fun r s' z => ?_) fun _ _ e => e)
    obtain ⟨v, rfl, hq⟩ := z
    exact wpAny_pure hq
theorem ifBound_objNe {args : List Value} {Q : Option Value → Shared → Prop} (X : K.In s.heap) (I : PySem.W.InstAt s.heap x ox C od) (hs : PySem.W.findIn K (.ref C) "__ne__" = some (some (.builtin "object.__ne__")))
    (h : wpAny M A (call (.builtin "object.__ne__") (.ref x :: args)) (fun v => Q (some v)) E s) : wpAny M A (callSpecialIfBound? (.ref x) "__ne__" args) Q E s := by
  simp only [callSpecialIfBound?, bindSpecialIfBound?]
  refine wpAny_holding (wpAny_bind (wpAny_bind (wpAny_bind (I.type.here ((PySem.W.looks_findIn X hs).here ?_)))))
  refine wpAny_bind (wpAny_askSetting (wpAny_ite ?_))
  have fin : wpAny M A (call (.builtin "object.__ne__") ([.ref x] ++ args) >>= fun v => pure (some v)) Q E s := wpAny_bind (wpAny_mono h (fun v s' h' => wpAny_pure h') fun _ _ h' => h')
  split
  · exact wpAny_bind (wpAny_of_eq (F.cmp_object.ne.bind _) (wpAny_pure (by exact fin)))
  · exact wpAny_tryCatch (wpAny_bind (wpAny_of_eq (F.cmp_object.ne.bind _) (wpAny_pure (by exact fin))))
theorem entry_ne {Q : Fin → Shared → Prop} (hu : A.units < cLine) (X : K.In s.heap) (I : PySem.W.InstAt s.heap x ox C od) (hs : PySem.W.findIn K (.ref C) "__eq__" = some (some (.ref f))) (hf : PySem.W.isFn K (.ref f) = true)
    (h : wpAny M A (call (.ref f) [.ref x, b]) (fun v s' => ∃ k, v = .bool k ∧ Q (.done (.ret (.bool (!k)))) s') E s) : wpAny M A (Builtin.«object.__ne__» ⟨[.ref x, b], []⟩) Q E s := by
  unfold Builtin.«object.__ne__»
  repeat (first
    | with_reducible refine wpAny_cRoomFor hu ?_
    | (refine wpAny_bind (m := callSpecialIfBound? (.ref x) (Str.ofString "__eq__") [b])
        (ifBound_K X I hs hf (wpAny_mono h (fun r s' hr => by
          obtain ⟨k, rfl, hq⟩ := hr
          repeat (first | exact hq | exact wpAny_pure hq | exact wpAny_truthy_bool hq | (refine wpAny_bind (m := truthy (.bool _)) (wpAny_truthy_bool ?_)) | wp_step)) fun _ _ e => e)))
    | wp_step)
theorem call_objNe {Q : Value → Shared → Prop} (hu : A.in1.units < cLine) (X : K.In s.heap) (I : PySem.W.InstAt s.heap x ox C od) (hm : PySem.W.mroIn K C (.type "object") = some true) (hs : PySem.W.findIn K (.ref C) "__eq__" = some (some (.ref f))) (hf : PySem.W.isFn K (.ref f) = true)
    (h : wpAny (model prog w) A.in1 (call (.ref f) [.ref x, b]) (fun v s' => ∃ k, v = .bool k ∧ Q (.bool (!k)) s') E s) : wpAny (model prog w) A (call (.builtin "object.__ne__") [.ref x, b]) Q E s :=
  wpAny_call (codeAny_call_builtin F.cmp_object.ne.plain F.cmpEntry_ne (PySem.W.check_slot F.cmpKind_ne F.cmpSplit_ne (I.type.andThen (PySem.W.looks_mroIn X hm)) (F.cmpArgs_ne _ _) (entry_ne hu X I hs hf (wpAny_mono h (fun v s' ⟨k, e, q⟩ => ⟨k, e, q⟩) fun _ _ e => e))))
theorem ne_K {Q : Value → Shared → Prop} (hu : A.in1.units < cLine) (hu0 : A.units < cLine) (X : K.In s.heap) (I : InstAt s.heap x ox C od) (hb : Looks (model prog w) s.heap (typeOf b) tb) (hn : notFirst K C tb = true)
    (hm : PySem.W.mroIn K C (.type "object") = some true) (hne : PySem.W.findIn K (.ref C) "__ne__" = some (some (.builtin "object.__ne__"))) (hs : PySem.W.findIn K (.ref C) "__eq__" = some (some (.ref f))) (hf : PySem.W.isFn K (.ref f) = true)
    (h : wpAny (model prog w) A.in1 (call (.ref f) [.ref x, b]) (fun v s' => ∃ k, v = .bool k ∧ Q (.bool (!k)) s') E s) : wpAny (model prog w) A (richCompare .NotEq (.ref x) b) Q E s := by
  refine cmp_one (op := .NotEq) hu0 X I hb hn ?_
  unfold tryCompare
  refine wpAny_bind (ifBound_objNe X I hne (call_objNe hu X I hm hs hf (wpAny_mono h (fun v s' ⟨k, e, q⟩ => ⟨k, e, ?_⟩) fun _ _ e => e)))
  exact wpAny_pure ⟨_, rfl, q⟩
end
end OwC

namespace L2.Tr
open PySem PySem.Spec PyProof.Rows
section
variable {X : Cx} {K : PySem.W.Frag} {C f : Addr} {CX : CXT} {k : Nat} {fd : FuncData} {ps : List Str} {sp : Sp}
structure EqC (K : PySem.W.Frag) (C a : Addr) : Prop where
  eq : PySem.W.findIn K (.ref C) "__eq__" = some (some (.ref a))
  fn : PySem.W.isFn K (.ref a) = true
  ne : PySem.W.findIn K (.ref C) "__ne__" = some (some (.builtin "object.__ne__"))
  ob : PySem.W.mroIn K C (.type "object") = some true
def Other (K : PySem.W.Frag) (C : Addr) (H : Hp) (y : V) : Prop := (∃ T, TyX K H y (.type T) ∧ PySem.W.notFirst K C (.type T) = true) ∨ ∃ b dy gs, y = .ref b ∧ H b = some (.ins C dy gs)
def rEqO (K : PySem.W.Frag) (C : Addr) (sp : Sp) (neg : Bool) : R2 := fun x y H Q => ∃ a dx fs, x = .ref a ∧ H a = some (.ins C dx fs) ∧ Other K C H y ∧ sp [x, y] H (fun v H' => ∃ b : Bool, v = .bl b ∧ Q (.bl (xor neg b)) H') E0
theorem other_looks {pins : List (Addr × Obj)} {σ : St} {H : Hp} {s : Shared} (I : Inv X pins σ H s) {y : V} {u : Value} (ry : RelV y u) (h : Other X.K C H y) : ∃ tb, PySem.W.Looks (model X.prog X.w) s.heap (typeOf u) tb ∧ PySem.W.notFirst X.K C tb = true := by
  rcases h with ⟨T, ty, hn⟩ | ⟨b, dy, gs, rfl, hb⟩
  · obtain ⟨P, kx, hP, _⟩ := kit_of I ry ty
    exact ⟨_, kx.ty _ _ I.kIn hP, hn⟩
  · obtain rfl : u = Value.ref b := ry
    obtain ⟨mB, J, _⟩ := ins_get I.hok hb
    obtain ⟨od, J, _⟩ := J.look
    exact ⟨.ref C, J.type, by simp [PySem.W.notFirst]⟩
theorem op_eqO (F : FnOk X.prog X.w X.K X.mg X.base CX0 k f fd ps sp) (hr : Room k X.A) (O : EqC X.K C f) (hb : Binds X.K fd ps []) : OpR X (compareOp .Eq) (rEqO X.K C sp false) := by
  intro pins s σ H x y v u Q I rx ry h
  obtain ⟨a, dx, fs, rfl, ha, ho, q⟩ := h
  obtain rfl : v = Value.ref a := rx
  obtain ⟨mA, J, _⟩ := ins_get I.hok ha
  obtain ⟨od, J, _⟩ := J.look
  obtain ⟨m, fr⟩ := I.fr
  obtain ⟨tb, lk, hn⟩ := other_looks I ry ho
  show wpAny _ _ (richCompare .Eq (.ref a) u) _ _ _
  refine PySem.W.cmp_K (op := .Eq) hr.units0 fr I.ok.mod.kin J lk hn O.eq O.fn ?_
  refine thn (run_fn (dvs := []) (ds := []) F hr hb .nil pass0 I (show Vals [V.ref a, y] [Value.ref a, u] from .cons (show RelV (V.ref a) (Value.ref a) from rfl) (.cons ry .nil)) q) fun u' s1 hq => ?_
  obtain ⟨z, H', I', rz, b, ez, hq⟩ := hq
  subst ez
  obtain rfl : u' = Value.bool b := rz
  exact ⟨.bl b, H', I', rfl, by rwa [Bool.false_xor] at hq⟩
theorem op_neO (F : FnOk X.prog X.w X.K X.mg X.base CX0 k f fd ps sp) (hr : Room (k + 1) X.A) (O : EqC X.K C f) (hb : Binds X.K fd ps []) : OpR X (compareOp .NotEq) (rEqO X.K C sp true) := by
  intro pins s σ H x y v u Q I rx ry h
  obtain ⟨a, dx, fs, rfl, ha, ho, q⟩ := h
  obtain rfl : v = Value.ref a := rx
  obtain ⟨mA, J, _⟩ := ins_get I.hok ha
  obtain ⟨od, J, _⟩ := J.look
  obtain ⟨tb, lk, hn⟩ := other_looks I ry ho
  show wpAny _ _ (richCompare .NotEq (.ref a) u) _ _ _
  refine OwC.ne_K hr.in1.units0 hr.units0 I.kIn J lk hn O.ob O.ne O.eq O.fn ?_
  have hl := F.len _ _ _ _ q
  have r2 : Vals [V.ref a, y] [Value.ref a, u] := .cons (show RelV (V.ref a) (Value.ref a) from rfl) (.cons ry .nil)
  refine wpAny_call (codeAny_mono (F.run X.A.in1 X.stack s H ⟨[.ref a, u], []⟩ [.ref a, u] [.ref a, y] _ E0 hr.in1 I.env0.in1 (by
    have := hb s [.ref a, u] I.kIn (by simpa using hl)
    simpa using this) r2 q) fun r s' hq => ?_)
  cases r with
  | error e => exact (show False from hq).elim
  | ok fl =>
    cases fl with
    | ret w' =>
      obtain ⟨z, H', I', rz, b, ez, hq2⟩ := I.after hq
      subst ez
      obtain rfl : w' = Value.bool b := rz
      exact ⟨b, rfl, .bl (!b), H', I', rfl, by rwa [Bool.true_xor] at hq2⟩
    | next => exact False.elim hq
    | brk => exact False.elim hq
    | cont => exact False.elim hq
theorem notFirst_ty {d : D} {s : String} (h : tyName d = some s) : PySem.W.notFirst K C (.type s) = true := by
  have key : ∀ (s : String) (l : List String), fastBuiltinMro s = some (l.map Value.type) → PySem.W.notFirst K C (.type s) = true := fun s l e => by
    unfold PySem.W.notFirst
    rw [Bool.or_eq_true]
    right
    show ((fastBuiltinMro s).map (·.contains (.ref C)) == some false) = true
    rw [e]
    have : (l.map Value.type).contains (Value.ref C) = false := by
      rw [List.contains_eq_any_beq]
      refine List.any_eq_false.mpr fun v hv => ?_
      obtain ⟨t, _, rfl⟩ := List.mem_map.mp hv
      simp
    rw [Option.map_some, this]
    rfl
  unfold tyName at h
  split at h <;> cases h
  · exact key "NoneType" ["NoneType", "object"] (by decide +kernel)
  · exact key "bool" ["bool", "int", "object"] (by decide +kernel)
  · exact key "int" ["int", "object"] (by decide +kernel)
  · exact key "str" ["str", "object"] (by decide +kernel)
  · exact key "list" ["list", "object"] (by decide +kernel)
  · exact key "tuple" ["tuple", "object"] (by decide +kernel)
  · exact key "dict" ["dict", "object"] (by decide +kernel)
def okOther (C0 : Addr) : D → Bool
  | .obj C _ _ => decide (C = C0)
  | d => (tyName d).isSome
theorem other_ok {C0 : Addr} {d : D} (h : okOther C0 d = true) {H : Hp} {v : V} (r : Rep H d v) : Other K C0 H v := by
  have fin : (tyName d).isSome = true → Other K C0 H v := fun h => by
    obtain ⟨s, hs⟩ := Option.isSome_iff_exists.mp h
    exact .inl ⟨s, Tr.ty_of hs r, notFirst_ty hs⟩
  cases d with
  | obj C ns ds =>
    have hC : C = C0 := of_decide_eq_true h
    subst hC
    obtain ⟨b, dy, us, rfl, h1, _⟩ := r.un_obj
    exact .inr ⟨b, dy, _, rfl, h1⟩
  | leaf v => exact fin h
  | seq b ds => exact fin h
  | dct ks ds => exact fin h
structure Eqr (P : Program) (w : World) (K : PySem.W.Frag) (mg : Str → Option Value) (base : Heap) (C : Addr) (k : Nat) (f : List D → Option D) : Prop where
  ex : ∃ (a : Addr) (fd : FuncData) (ps : List Str), EqC K C a ∧ FnOk P w K mg base CX0 k a fd ps (spP f) ∧ Binds K fd ps []
theorem eqr_eq {C0 : Addr} {g : List D → Option D} (h : Eqr X.prog X.w X.K X.mg X.base C0 k g) (hr : Room k X.A) : OpR X (compareOp .Eq) (rEqO X.K C0 (spP g) false) := by
  obtain ⟨a, fd, ps, h1, h2, h3⟩ := h.ex
  exact op_eqO h2 hr h1 h3
theorem eqr_ne {C0 : Addr} {g : List D → Option D} (h : Eqr X.prog X.w X.K X.mg X.base C0 k g) (hr : Room (k + 1) X.A) : OpR X (compareOp .NotEq) (rEqO X.K C0 (spP g) true) := by
  obtain ⟨a, fd, ps, h1, h2, h3⟩ := h.ex
  exact op_neO h2 hr h1 h3
def eqOD (neg : Bool) (C0 : Addr) (g : List D → Option D) : D → D → Option D := fun x y => match x with
  | .obj C _ _ => if C = C0 ∧ okOther C0 y = true then ((g [x, y]).bind asB).map fun b => bD (xor neg b) else none
  | _ => none
theorem r2_eqO {neg : Bool} {C0 : Addr} {g : List D → Option D} : R2D (rEqO K C0 (spP g) neg) (eqOD neg C0 g) := fun d1 d2 z e G H v1 v2 x r1 r2 Q k => by
  unfold eqOD at e
  split at e
  · rename_i C ns ds
    split at e
    · rename_i hC
      obtain ⟨rfl, ho⟩ := hC
      obtain ⟨b, e1, rfl⟩ := Option.map_eq_some_iff.mp e
      obtain ⟨db, e2, e3⟩ := Option.bind_eq_some_iff.mp e1
      have rr := r1.rep x
      obtain ⟨p, dx, us, rfl, h1, h2, h3⟩ := r1.obj x
      refine ⟨p, dx, _, rfl, h1, other_ok ho (r2.rep x), H, _, db, Ex.refl _, .cons rr (.cons (r2.rep x) .nil), e2, fun v G2 H2 f2 r => ?_⟩
      unfold asB at e3
      split at e3
      · cases e3
        obtain ⟨rfl, _⟩ := r.un_lf
        exact ⟨b, rfl, k _ G H2 (.of x (f2.g.trans f2.gh)) (.lf rfl)⟩
      · cases e3
    · cases e
  · cases e
end
end L2.Tr

namespace L2.Tr
open PySem PySem.Spec PyProof.Rows
section
variable {X : Cx} {K : PySem.W.Frag} {C : Addr} {k : Nat} {e e2 o tg a b c : Expr} {es : List Expr} {t t' ta tb tc te : TE} {φ φ' φa φb φc : Env → Option D} {ψ : Env → Option (List D)} {pos : Pos}
/-! ### len of an instance with a __len__ of its own -/
structure Len (P : Program) (w : World) (K : PySem.W.Frag) (mg : Str → Option Value) (base : Heap) (C : Addr) (k : Nat) (f : List D → Option D) : Prop where
  ex : ∃ (a : Addr) (fd : FuncData) (ps : List Str), L2.Vy.Own1 K C a "__len__" ∧ FnOk P w K mg base CX0 k a fd ps (spP f) ∧ Binds K fd ps []
def rLenO (C : Addr) (sp : Sp) : List V → Hp → VK → Prop := fun xs H Q => ∃ a dx fs, xs = [.ref a] ∧ H a = some (.ins C dx fs) ∧ sp [.ref a] H (fun v H' => ∃ n : Int, v = .int n ∧ 0 ≤ n ∧ n < 2 ^ 63 ∧ Q (.int n) H') E0
theorem call_lenO {f : Addr} {fd : FuncData} {ps : List Str} {sp : Sp} (F : FnOk X.prog X.w X.K X.mg X.base CX0 k f fd ps sp) (hr : Room (k + 1) X.A) (O : L2.Vy.Own1 X.K C f "__len__") (hb : Binds X.K fd ps []) : CallR X (.builtin "len") (rLenO C sp) := by
  intro pins s σ H xs us Q I rv h
  obtain ⟨a, dx, fs, rfl, ha, q⟩ := h
  obtain rfl : us = [Value.ref a] := by
    cases rv with
    | cons r t => cases t; cases r; rfl
  obtain ⟨mA, J, _⟩ := ins_get I.hok ha
  obtain ⟨od, J, _⟩ := J.look
  obtain ⟨m, fr⟩ := I.fr
  refine PySem.W.len_K fr I.ok.mod.kin J O.hs O.hf ?_
  have hl := F.len _ _ _ _ q
  have r2 : Vals [V.ref a] [Value.ref a] := .cons (show RelV (V.ref a) (Value.ref a) from rfl) .nil
  refine wpAny_call (codeAny_mono (F.run X.A.in1 X.stack s H ⟨[.ref a], []⟩ [.ref a] [.ref a] _ E0 hr.in1 I.env0.in1 (by
    have := hb s [.ref a] I.kIn (by simpa using hl)
    simpa using this) r2 q) fun r s' hq => ?_)
  cases r with
  | error e => exact (show False from hq).elim
  | ok fl =>
    cases fl with
    | ret w' =>
      obtain ⟨z, H', I', rz, n, ez, h0, h1, hq2⟩ := I.after hq
      subst ez
      obtain ⟨tk, rfl⟩ := rz
      exact ⟨⟨h0, h1⟩, .int n, H', I'.tok _, ⟨_, rfl⟩, hq2⟩
    | next => exact False.elim hq
    | brk => exact False.elim hq
    | cont => exact False.elim hq
theorem len_cr {f : List D → Option D} (h : Len X.prog X.w X.K X.mg X.base C k f) (hr : Room (k + 1) X.A) : CallR X (.builtin "len") (rLenO C (spP f)) := by
  obtain ⟨a, fd, ps, h1, h2, h3⟩ := h.ex
  exact call_lenO h2 hr h1 h3
def lenOD (C0 : Addr) (f : List D → Option D) : List D → Option D
  | [.obj C ns ds] => if C = C0 then ((f [.obj C ns ds]).bind asI).bind fun n => if 0 ≤ n ∧ n < 2 ^ 63 then some (.leaf (.int n)) else none else none
  | _ => none
theorem r1_lenO {C0 : Addr} {f : List D → Option D} : R1D (rLenO C0 (spP f)) (lenOD C0 f) := fun ds z e G H vs x r1 Q k => by
  unfold lenOD at e
  split at e
  · rename_i C ns ds
    split at e
    · rename_i hC
      subst hC
      obtain ⟨v, rfl, r⟩ := views1 r1
      obtain ⟨n, e1, e2⟩ := Option.bind_eq_some_iff.mp e
      obtain ⟨dn, e3, e4⟩ := Option.bind_eq_some_iff.mp e1
      split at e2
      · rename_i hn
        cases e2
        have rr := r.rep x
        obtain ⟨p, dx, us, rfl, h1, h2, h3⟩ := r.obj x
        refine ⟨p, dx, _, rfl, h1, H, _, dn, Ex.refl _, .cons rr .nil, e3, fun v G2 H2 f2 r => ?_⟩
        unfold asI at e4
        split at e4
        · cases e4
          obtain ⟨rfl, _⟩ := r.un_lf
          exact ⟨n, rfl, hn.1, hn.2, k _ G H2 (.of x (f2.g.trans f2.gh)) (.lf rfl)⟩
        · cases e4
      · cases e2
    · cases e
  · cases e
/-! ### len(set(words)) -/
def strsOf : List D → Option (List Str)
  | [] => some []
  | .leaf (.str x) :: r => (strsOf r).map (x :: ·)
  | _ :: _ => none
theorem strs_un : ∀ {ds : List D} {xs : List Str}, strsOf ds = some xs → ds = (xs.map V.str).map D.leaf
  | [], xs, h => by cases h; rfl
  | d :: r, xs, h => by
    unfold strsOf at h
    split at h
    · rename_i hh; cases hh
    · rename_i x r' hh
      obtain ⟨ws, h1, rfl⟩ := Option.map_eq_some_iff.mp h
      injection hh with e1 e2
      subst e1 e2
      rw [strs_un h1]; rfl
    · cases h
theorem strs_map : ∀ (xs : List Str), strsOf (xs.map fun x => D.leaf (.str x)) = some xs
  | [] => rfl
  | x :: r => by rw [List.map_cons, strsOf, strs_map r]; rfl
def lenSF (φ : Env → Option D) : Env → Option D := fun ρ => (φ ρ).bind fun d => match d with
  | .seq _ ds => (strsOf ds).bind fun xs => if xs.length ≤ 100 then some (.leaf (.int (Vs.dcn xs xs.length))) else none
  | _ => none
theorem pu_lenS {p p2 q : Pos} (hc : X.calm = true) (hg : Gl X "len") (hm : X.mg "len" = none) (hg2 : Gl X "set") (hm2 : X.mg "set" = none) (h : ViD X a ta φa)
    (na : starEach [a] X.env = (false, eval a X.env) :: starEach [] X.env := by rfl) : PuD X (.Call (.Name "len" p) [.Call (.Name "set" p2) [a] [] q] [] pos) (L2.Vs.tLenS X.K ta) (lenSF φa) := ⟨L2.Vs.pe_lenS hc hg hm hg2 hm2 h.pe na, fun ρ z ee G H σ x Q k => by
  obtain ⟨d, e1, e2⟩ := Option.bind_eq_some_iff.mp ee
  refine h.ev ρ d e1 G H σ x _ fun v G1 H1 f1 r1 => ?_
  split at e2
  · rename_i b ds
    obtain ⟨xs, e3, e4⟩ := Option.bind_eq_some_iff.mp e2
    split at e4
    · rename_i hl
      cases e4
      obtain rfl := strs_un e3
      obtain ⟨l, us, rfl, h1, l1, q1⟩ := r1.seq f1.gh
      obtain ⟨rfl, _⟩ := reps_leafy q1
      refine ⟨l, xs, rfl, ?_, hl, k _ G1 H1 f1 (.lf rfl)⟩
      cases b with
      | true => exact .inl (SqL.of h1)
      | false => exact .inr (SqT.of h1)
    · cases e4
  · cases e2⟩
/-! ### list(d.items()) -/
def itemsO (φ : Env → Option D) : Env → Option (List D) := fun ρ => (φ ρ).bind fun d => match d with
  | .dct ks ds => if ks.all okKey = true then some ((ks.zip ds).map fun p => .seq false [keyV p.1, p.2]) else none
  | _ => none
theorem items_reps {G H' : Hp} : ∀ {ks : List Key} {ds : List D} {us : List V} {ts : List Addr}, ks.all okKey = true → ks.length = ds.length → Reps G ds us → Ex G H' → Paired (fun (t : Addr) (q : Key × V) => H' t = some (.tup [kV q.1, q.2])) ts (ks.zip us) →
    Reps H' ((ks.zip ds).map fun p => .seq false [keyV p.1, p.2]) (ts.map V.ref)
  | [], ds, us, ts, _, _, _, _, p => by
    rw [List.zip_nil_left] at p
    cases p
    exact .nil
  | k :: ks, [], us, ts, _, h, _, _, _ => by simp at h
  | k :: ks, d :: ds, us, ts, ha, hl, r, e, p => by
    obtain ⟨u, us1, rfl, q, t⟩ := r.un
    rw [List.all_cons, Bool.and_eq_true] at ha
    rw [List.zip_cons_cons] at p
    cases p with
    | cons p1 p2 =>
      refine .cons (.sq (b := false) p1 (by show 2 ≤ Lim; decide) (.cons ?_ (.cons (q.mono e) .nil))) (items_reps ha.2 (by simpa using hl) t e p2)
      cases k with
      | inl i => exact .lf rfl
      | inr y => exact .lf ha.1
theorem ow_items {p apos cpos : Pos} (hc : X.calm = true) (h : ViD X e t φ) (hg : Gl X "list") (hm : X.mg "list" = none) (hv : bootBuiltins "list" = some (.type "list")) (hbase : attributeBase e "items" X.env (eval e X.env) = eval e X.env := by rfl) (hline : (apos.endLine == cpos.line) = true := by rfl)
    (hs : starEach [.Call (.Attribute e "items" apos) [] [] cpos] X.env = (false, eval (.Call (.Attribute e "items" apos) [] [] cpos) X.env) :: starEach [] X.env := by rfl) :
    OwD X (.Call (.Name "list" p) [.Call (.Attribute e "items" apos) [] [] cpos] [] pos) (LiI.tListItems t) (itemsO φ) := ⟨LiI.pe_listItems hc h.pe hg hm hv hbase hline hs, fun ρ z ee G H σ x Q kk => by
  obtain ⟨d, e1, e2⟩ := Option.bind_eq_some_iff.mp ee
  refine h.ev ρ d e1 G H σ x _ fun v G1 H1 f1 r1 => ?_
  split at e2
  · rename_i ks ds
    split at e2
    · rename_i hk
      cases e2
      obtain ⟨a, us, rfl, h1, l0, l1, q⟩ := r1.dct f1.gh
      refine ⟨a, _, rfl, h1, fun H' p ts ex np nt npt hp pr => ?_⟩
      have gh : Ex G1 H' := f1.gh.trans ex
      -- G2: what was there, and the pairs
      let G2 : Hp := fun c => if c = p then none else if c ∈ ts then H' c else G1 c
      have e12 : Ex G1 G2 := fun c o ho => by
        have c1 : c ≠ p := fun z => by rw [z, f1.gh.back np] at ho; cases ho
        have c2 : c ∉ ts := fun z => by rw [f1.gh.back (nt c z)] at ho; cases ho
        show (if c = p then none else if c ∈ ts then H' c else G1 c) = some o
        rw [if_neg c1, if_neg c2]; exact ho
      have e2h : Ex G2 H' := fun c o ho => by
        have ho : (if c = p then none else if c ∈ ts then H' c else G1 c) = some o := ho
        by_cases c1 : c = p
        · rw [if_pos c1] at ho; cases ho
        · rw [if_neg c1] at ho
          by_cases c2 : c ∈ ts
          · rw [if_pos c2] at ho; exact ho
          · rw [if_neg c2] at ho; exact gh _ _ ho
      have pr2 : Paired (fun (t : Addr) (q : Key × V) => G2 t = some (.tup [kV q.1, q.2])) ts (ks.zip us) := by
        have : ∀ {as : List Addr} {qs : List (Key × V)}, (∀ c ∈ as, c ∈ ts) → Paired (fun (t : Addr) (q : Key × V) => H' t = some (.tup [kV q.1, q.2])) as qs → Paired (fun (t : Addr) (q : Key × V) => G2 t = some (.tup [kV q.1, q.2])) as qs := fun {as qs} hs pp => by
          induction pp with
          | nil => exact .nil
          | @cons c q as qs h t ih =>
            refine .cons ?_ (ih fun c hc => hs c (List.mem_cons_of_mem _ hc))
            have hc := hs c List.mem_cons_self
            show (if c = p then none else if c ∈ ts then H' c else G1 c) = _
            rw [if_neg (fun z => npt (by rw [← z]; exact hc)), if_pos hc]; exact h
        exact this (fun _ z => z) pr
      have hlen : (ts.map V.ref).length = ((ks.zip ds).map fun p => D.seq false [keyV p.1, p.2]).length := by
        rw [List.length_map, List.length_map, Paired.length pr, List.length_zip, List.length_zip, q.len]
      refine kk p (ts.map V.ref) G2 H' (f1.trans ⟨e12, e2h, ex, fun c z1 z2 => ?_⟩) (f1.ne np) (by show (if p = p then none else _) = none; rw [if_pos rfl]) hp (by rw [List.length_map, List.length_zip]; omega) (items_reps hk l0 (q.mono e12) (Ex.refl _) pr2)
      show (if c = p then none else if c ∈ ts then H' c else G1 c) = none
      by_cases c1 : c = p
      · rw [if_pos c1]
      · rw [if_neg c1, if_neg (fun z => z1 (nt c z))]; exact z2
    · cases e2
  · cases e2⟩
/-! ### == of plain data -/
mutual
def pyD : D → Option PyData
  | .leaf .non => some .none
  | .leaf (.bl b) => some (.bool b)
  | .leaf (.int i) => some (.int i)
  | .leaf (.str x) => some (.str x)
  | .leaf _ => none
  | .seq true ds => (pyDs ds).map .list
  | .seq false ds => (pyDs ds).map .tuple
  | .dct _ _ => none
  | .obj _ _ _ => none
def pyDs : List D → Option (List PyData)
  | [] => some []
  | d :: ds => (pyD d).bind fun p => (pyDs ds).map (p :: ·)
end
mutual
theorem rep_dp {K : PySem.W.Frag} {H : Hp} : ∀ {d : D} {v : V} {p : PyData}, pyD d = some p → Rep H d v → Dp K H v p
  | .leaf x, v, p, h, r => by
    obtain ⟨rfl, lf⟩ := r.un_lf
    cases v <;> simp only [pyD] at h <;> first | (cases h; done) | (cases h; first | exact .non | exact .bl _ | exact .int _ | exact .str _)
  | .seq b ds, v, p, h, r => by
    obtain ⟨a, us, rfl, h1, _, q⟩ := r.un_sq
    cases b with
    | true =>
      simp only [pyD] at h
      obtain ⟨ps, h2, rfl⟩ := Option.map_eq_some_iff.mp h
      exact .lst (SqL.of h1) (reps_dp h2 q)
    | false =>
      simp only [pyD] at h
      obtain ⟨ps, h2, rfl⟩ := Option.map_eq_some_iff.mp h
      exact .tup (SqT.of h1) (reps_dp h2 q)
  | .dct _ _, v, p, h, r => by simp only [pyD] at h; cases h
  | .obj _ _ _, v, p, h, r => by simp only [pyD] at h; cases h
theorem reps_dp {K : PySem.W.Frag} {H : Hp} : ∀ {ds : List D} {us : List V} {ps : List PyData}, pyDs ds = some ps → Reps H ds us → DpAll K H us ps
  | [], us, ps, h, r => by
    simp only [pyDs] at h
    cases h
    rw [r.un0]
    exact .nil
  | d :: ds, us, ps, h, r => by
    simp only [pyDs] at h
    obtain ⟨p, h1, h2⟩ := Option.bind_eq_some_iff.mp h
    obtain ⟨qs, h3, rfl⟩ := Option.map_eq_some_iff.mp h2
    obtain ⟨u, us1, rfl, q, t⟩ := r.un
    exact .cons (rep_dp h1 q) (reps_dp h3 t)
end
def eqP (neg : Bool) (x y : D) : Option D := (pyD x).bind fun p => (pyD y).bind fun q => if SeqAt.shaped p = true ∧ SeqAt.shaped q = true then some (bD (xor neg (PyData.eqv p q))) else none
theorem eqP_un {neg : Bool} {x y z : D} (h : eqP neg x y = some z) : ∃ p q, pyD x = some p ∧ pyD y = some q ∧ SeqAt.shaped p = true ∧ SeqAt.shaped q = true ∧ z = bD (xor neg (PyData.eqv p q)) := by
  obtain ⟨p, h1, h⟩ := Option.bind_eq_some_iff.mp h
  obtain ⟨q, h2, h⟩ := Option.bind_eq_some_iff.mp h
  split at h
  · rename_i hs
    cases h
    exact ⟨p, q, h1, h2, hs.1, hs.2, rfl⟩
  · cases h
theorem r2_eqD : R2D (rEqD K) (eqP false) := fun d1 d2 z e G H v1 v2 x r1 r2 Q k => by
  obtain ⟨p, q, h1, h2, h3, h4, rfl⟩ := eqP_un e
  exact ⟨p, q, rep_dp h1 (r1.rep x), rep_dp h2 (r2.rep x), h3, h4, k _ G H (.refl x) (by rw [Bool.false_xor]; exact .lf rfl)⟩
theorem r2_neD : R2D (rNeD K) (eqP true) := fun d1 d2 z e G H v1 v2 x r1 r2 Q k => by
  obtain ⟨p, q, h1, h2, h3, h4, rfl⟩ := eqP_un e
  exact ⟨p, q, rep_dp h1 (r1.rep x), rep_dp h2 (r2.rep x), h3, h4, k _ G H (.refl x) (by rw [Bool.true_xor]; exact .lf rfl)⟩
end
end L2.Tr

/-! zip of two things of any of these kinds: a list, a tuple, the values of a dict that stands still -/
namespace L2.Zg
open PySem
open PySem.Sem (wp)
/-- an iterator: N k, it stands at k; Dt xs, what it walks stands as xs; ks, where that stands -/
structure Src (P : Program) (w : World) (it : Addr) (ks : List Addr) (N : Nat → Heap → Prop) (Dt : List Value → Heap → Prop) : Prop where
  obj : ∀ k h, N k h → ∃ o, h.get? it = some o ∧ ∀ v, o.data ≠ .cell v
  keepN : ∀ k h h', N k h → (∀ o, h.get? it = some o → h'.get? it = some o) → N k h'
  keepD : ∀ xs h h', Dt xs h → (∀ c ∈ ks, ∀ o, h.get? c = some o → h'.get? c = some o) → Dt xs h'
  item : ∀ (A : Around) (E Q : Value → Shared → Prop) (s : Shared) (k : Nat) (xs : List Value) (x : Value), N k s.heap → Dt xs s.heap → xs[k]? = some x → (∀ h', N (k + 1) h' → Heap.SameBut it s.heap h' → Q x { s with heap := h' }) →
    wpAny (model P w) A (Builtin.SmallTypes.nextOf (.ref it)) Q E s
  done : ∀ (A : Around) (E Q : Value → Shared → Prop) (s : Shared) (k : Nat) (xs : List Value), A.handled = none → N k s.heap → Dt xs s.heap → xs[k]? = none →
    (∀ h' e, Heap.ExtBut it s.heap h' → (∃ o, h'.get? e = some o ∧ o.cls = .type "StopIteration") → E (.ref e) { s with heap := h' }) → wpAny (model P w) A (Builtin.SmallTypes.nextOf (.ref it)) Q E s
theorem src_lst {P : Program} {w : World} {it l : Addr} : Src P w it [l] (fun k h => h.IsListIter it l k) (fun xs h => h.IsList l xs.toArray) where
  obj := fun k h st => by obtain ⟨o, e, _, d⟩ := st; exact ⟨o, e, fun v q => by rw [d] at q; cases q⟩
  keepN := fun k h h' st e => st.at e
  keepD := fun xs h h' st e => st.at (e l (by simp))
  item := fun A E Q s k xs x h1 h2 hx hQ => wpAny_nextOf_list_item h1 h2 (by simpa using hx) hQ
  done := fun A E Q s k xs hh h1 h2 hx hE => wpAny_nextOf_list_end hh h1 h2 (by simpa using hx) hE
theorem src_tup {P : Program} {w : World} {it l : Addr} : Src P w it [l] (fun k h => h.IsTupleIter it l k) (fun xs h => h.IsTuple l xs.toArray) where
  obj := fun k h st => by obtain ⟨o, e, _, d⟩ := st; exact ⟨o, e, fun v q => by rw [d] at q; cases q⟩
  keepN := fun k h h' st e => st.at e
  keepD := fun xs h h' st e => st.at (e l (by simp))
  item := fun A E Q s k xs x h1 h2 hx hQ => RZ.nextOf_tuple_item h1 h2 (by simpa using hx) hQ
  done := fun A E Q s k xs hh h1 h2 hx hE => RZ.nextOf_tuple_end hh h1 h2 (by simpa using hx) hE
section
variable {prog : Program} {w : World} {K : Type} [DecidableEq K] {knd : KeyKind prog w K} {A : Around} {E : Value → Shared → Prop} {s : Shared}
theorem nextOf_vals_item {it d : Addr} {i ep : Nat} {kvs : List (K × Value)} {k : K} {v : Value} {Q : Value → Shared → Prop} (hit : s.heap.IsValIter it d i kvs.length ep)
    (hm : s.heap.DictAt knd d kvs ep) (hx : kvs[i]? = some (k, v))
    (hQ : ∀ h', h'.IsValIter it d (i + 1) kvs.length ep → Heap.SameBut it s.heap h' → Q v { s with heap := h' }) :
    wpAny (model prog w) A (Builtin.SmallTypes.nextOf (.ref it)) Q E s := by
  obtain ⟨o, ho, hc, hd⟩ := id hit
  obtain ⟨od, es, hod, hcd, hdd, hk, hp, hn⟩ := id hm
  unfold Builtin.SmallTypes.nextOf
  refine wpAny_bind (wpAny_callSpecial?_slot (name := Str.ofString "__next__") hit.typeIs F.slot_dict_valueiterator_next
    (wpAny_call_entry F.slot_dict_valueiterator_next hit.typeIs F.entry_dict_valueiterator_next ?_ (F.args_dict_valueiterator_next_1 _)))
  refine wpAny_bind (wpAny_pure ?_)
  refine wpAny_bind ?_
  refine wpAny_bind ?_
  first | refine wpAny_bind (wpAny_typeNameOfWhole_valiter hit.typeIs (wpAny_pure ?_)) | refine wpAny_bind (wpAny_typeNameOf_valiter hit.typeIs (wpAny_pure ?_))
  refine wpAny_bind (wpAny_fieldsOf ho hd ?_)
  have hown : Builtin.Dict_items.ownsTuple "dict_valueiterator" = false := by decide
  simp only [hown, Bool.false_eq_true, if_false]
  show wpAny _ _ (if (Value.ref d == Value.none) = true then _ else _) _ _ s
  rw [if_neg (show ¬ ((Value.ref d == Value.none) = true) from Bool.false_ne_true)]
  refine wpAny_bind (wpAny_pure ?_)
  refine wpAny_bind (wpAny_dictEntries hod hdd ?_)
  have hsz : es.size = kvs.length := by rw [← hp.length]; simp
  rw [if_neg (by rw [hsz]; simp)]
  refine wpAny_bind (wpAny_pure ?_)
  refine wpAny_bind (wpAny_dictEpoch hod hdd ?_)
  rw [if_neg (by simp)]
  refine wpAny_pure ?_
  have hlt : i < kvs.length := by
    rcases Nat.lt_or_ge i kvs.length with h | h
    · exact h
    · simp [List.getElem?_eq_none h] at hx
  have hlt' : i < es.size := by rw [hsz]; exact hlt
  have hval : es[i].val = v := (hp.get? (e := es[i]) (by simp [hlt']) hx).2
  simp only [show ¬ ((i : Int) < 0) from by omega, if_false, Int.toNat_natCast, Array.getElem?_eq_getElem hlt']
  refine wpAny_bind ?_
  first | refine wpAny_bind (wpAny_typeNameOfWhole_valiter hit.typeIs (wpAny_pure ?_)) | refine wpAny_bind (wpAny_typeNameOf_valiter hit.typeIs (wpAny_pure ?_))
  refine wpAny_bind (wpAny_isOneOf_valiter hit.typeIs ?_)
  show wpAny _ _ (setField (.ref it) 1 (rawInt ((i : Int) + 1)) >>= _) _ _ s
  refine wpAny_bind (wpAny_setField ho hd (by simp) ?_)
  have hit' : (s.heap.update it (Obj.mapFields (·.setIfInBounds 1 (rawInt ((i : Int) + 1))))).IsValIter it d (i + 1) kvs.length ep :=
    ⟨_, Heap.get?_update_self _ ho (Obj.isFreed_of_fields (Obj.data_mapFields hd _)), (Obj.cls_mapFields ..).trans hc, by rw [Obj.data_mapFields hd]; simp [rawInt]⟩
  refine wpAny_bind (wpAny_holding ?_)
  refine wpAny_bind (wpAny_isOneOf_valiter (s := { s with heap := s.heap.update it (Obj.mapFields (·.setIfInBounds 1 (rawInt ((i : Int) + 1)))) }) hit'.typeIs ?_)
  refine wpAny_bind (wpAny_isOneOf_valiter (s := { s with heap := s.heap.update it (Obj.mapFields (·.setIfInBounds 1 (rawInt ((i : Int) + 1)))) }) hit'.typeIs ?_)
  show wpAny _ _ (pure es[i].val) _ _ _
  exact wpAny_pure (wpAny_pure ⟨_, rfl, wpAny_pure (hval ▸ hQ _ hit' (Heap.SameBut.update ..))⟩)
theorem nextOf_vals_end {it d : Addr} {i ep : Nat} {kvs : List (K × Value)} {Q : Value → Shared → Prop} (hh : A.handled = none) (hit : s.heap.IsValIter it d i kvs.length ep)
    (hm : s.heap.DictAt knd d kvs ep) (hx : kvs[i]? = none)
    (hE : ∀ h' e, Heap.ExtBut it s.heap h' → (∃ o, h'.get? e = some o ∧ o.cls = .type "StopIteration") → E (.ref e) { s with heap := h' }) : wpAny (model prog w) A (Builtin.SmallTypes.nextOf (.ref it)) Q E s := by
  obtain ⟨o, ho, hc, hd⟩ := id hit
  obtain ⟨od, es, hod, hcd, hdd, hk, hp, hn⟩ := id hm
  unfold Builtin.SmallTypes.nextOf
  refine wpAny_bind (wpAny_callSpecial?_slot (name := Str.ofString "__next__") hit.typeIs F.slot_dict_valueiterator_next
    (wpAny_call_entry F.slot_dict_valueiterator_next hit.typeIs F.entry_dict_valueiterator_next ?_ (F.args_dict_valueiterator_next_1 _)))
  refine wpAny_bind (wpAny_pure ?_)
  refine wpAny_bind ?_
  refine wpAny_bind ?_
  first | refine wpAny_bind (wpAny_typeNameOfWhole_valiter hit.typeIs (wpAny_pure ?_)) | refine wpAny_bind (wpAny_typeNameOf_valiter hit.typeIs (wpAny_pure ?_))
  refine wpAny_bind (wpAny_fieldsOf ho hd ?_)
  have hown : Builtin.Dict_items.ownsTuple "dict_valueiterator" = false := by decide
  simp only [hown, Bool.false_eq_true, if_false]
  show wpAny _ _ (if (Value.ref d == Value.none) = true then _ else _) _ _ s
  rw [if_neg (show ¬ ((Value.ref d == Value.none) = true) from Bool.false_ne_true)]
  refine wpAny_bind (wpAny_pure ?_)
  refine wpAny_bind (wpAny_dictEntries hod hdd ?_)
  have hsz : es.size = kvs.length := by rw [← hp.length]; simp
  rw [if_neg (by rw [hsz]; simp)]
  refine wpAny_bind (wpAny_pure ?_)
  refine wpAny_bind (wpAny_dictEpoch hod hdd ?_)
  rw [if_neg (by simp)]
  refine wpAny_pure ?_
  have hge : es.size ≤ i := by rw [hsz]; simpa using hx
  simp only [show ¬ ((i : Int) < 0) from by omega, if_false, Int.toNat_natCast, Array.getElem?_eq_none hge]
  refine wpAny_bind ?_
  first | refine wpAny_bind (wpAny_typeNameOfWhole_valiter hit.typeIs (wpAny_pure ?_)) | refine wpAny_bind (wpAny_typeNameOf_valiter hit.typeIs (wpAny_pure ?_))
  show wpAny _ _ (setField (.ref it) 0 .none >>= _) _ _ s
  refine wpAny_bind (wpAny_setField ho hd (by simp) ?_)
  show wpAny _ _ (newExc (.type "StopIteration") [] >>= _) _ _ _
  refine wpAny_bind ?_
  simp only [newExc, newTuple]
  refine wpAny_bind (wpAny_newObj_type ?_ (by size_fits))
  refine wpAny_bind (m := firstArgMember _ _) (wpAny_of_eq (a := Value.none) (by first | rfl | (simp only [firstArgMember]; rfl)) ?_)
  refine wpAny_newObj_type ?_ (by size_fits)
  simp only [raiseNew]
  refine wpAny_bind (wpAny_handled ?_)
  rw [show A.in1.handled = none from hh]
  refine wpAny_bind (wpAny_pure (wpAny_throw ?_))
  exact hE _ _ (((Heap.SameBut.update ..).extBut.push _).push _) ⟨_, Heap.get?_push_size _ rfl, rfl⟩
theorem src_vals {it d : Addr} {n ep : Nat} : Src prog w it [d] (fun k h => h.IsValIter it d k n ep) (fun xs h => ∃ kvs : List (K × Value), h.DictAt knd d kvs ep ∧ kvs.length = n ∧ xs = kvs.map (·.2)) where
  obj := fun k h st => by obtain ⟨o, e, _, dd⟩ := st; exact ⟨o, e, fun v q => by rw [dd] at q; cases q⟩
  keepN := fun k h h' st e => st.at e
  keepD := fun xs h h' st e => by obtain ⟨kvs, h1, h2⟩ := st; exact ⟨kvs, h1.at (e d (by simp)), h2⟩
  item := fun A E Q s k xs x h1 h2 hx hQ => by
    obtain ⟨kvs, h2, rfl, rfl⟩ := h2
    rw [List.getElem?_map] at hx
    obtain ⟨⟨a, b⟩, h3, rfl⟩ := Option.map_eq_some_iff.mp hx
    exact nextOf_vals_item h1 h2 h3 hQ
  done := fun A E Q s k xs hh h1 h2 hx hE => by
    obtain ⟨kvs, h2, rfl, rfl⟩ := h2
    rw [List.getElem?_map] at hx
    exact nextOf_vals_end hh h1 h2 (Option.map_eq_none_iff.mp hx) hE
end
structure Apart (z TI TO i1 i2 : Addr) (ks1 ks2 : List Addr) : Prop where
  TIz : TI ≠ z
  TOz : TO ≠ z
  i1z : i1 ≠ z
  i2z : i2 ≠ z
  TITO : TI ≠ TO
  TIi1 : TI ≠ i1
  TIi2 : TI ≠ i2
  TOi1 : TO ≠ i1
  TOi2 : TO ≠ i2
  i12 : i1 ≠ i2
  k1 : ∀ c ∈ ks1, c ≠ z ∧ c ≠ TO ∧ c ≠ i1 ∧ c ≠ i2
  k2 : ∀ c ∈ ks2, c ≠ z ∧ c ≠ TO ∧ c ≠ i1 ∧ c ≠ i2
theorem nne {a b : Nat} (h : a < b ∨ b < a) : (show Addr from a) ≠ (show Addr from b) := fun z => by
  have z : a = b := z
  omega
theorem apart (n : Nat) {ks1 ks2 : List Addr} (h1 : ∀ c ∈ ks1, Nat.lt c n) (h2 : ∀ c ∈ ks2, Nat.lt c n) : Apart (n + 4) (n + 2) (n + 3) n (n + 1) ks1 ks2 where
  TIz := nne (by omega)
  TOz := nne (by omega)
  i1z := nne (by omega)
  i2z := nne (by omega)
  TITO := nne (by omega)
  TIi1 := nne (by omega)
  TIi2 := nne (by omega)
  TOi1 := nne (by omega)
  TOi2 := nne (by omega)
  i12 := nne (by omega)
  k1 := fun c hc => by
    have e := h1 c hc
    exact ⟨nne (.inl (Nat.lt_of_lt_of_le e (Nat.le_add_right _ _))), nne (.inl (Nat.lt_of_lt_of_le e (Nat.le_add_right _ _))), nne (.inl e), nne (.inl (Nat.lt_of_lt_of_le e (Nat.le_add_right _ _)))⟩
  k2 := fun c hc => by
    have e := h2 c hc
    exact ⟨nne (.inl (Nat.lt_of_lt_of_le e (Nat.le_add_right _ _))), nne (.inl (Nat.lt_of_lt_of_le e (Nat.le_add_right _ _))), nne (.inl e), nne (.inl (Nat.lt_of_lt_of_le e (Nat.le_add_right _ _)))⟩
section
variable {prog : Program} {w : World} {A : Around} {E : Value → Shared → Prop} {s : Shared} {ks1 ks2 : List Addr} {N1 N2 : Nat → Heap → Prop} {D1 D2 : List Value → Heap → Prop}
theorem next_item {z TI TO i1 i2 : Addr} {k1 k2 : Nat} {xs ys : List Value} {x y a b : Value} {Q : Value → Shared → Prop} (D : Apart z TI TO i1 i2 ks1 ks2) (S1 : Src prog w i1 ks1 N1 D1) (S2 : Src prog w i2 ks2 N2 D2)
    (hz : IsZip s.heap z TI TO .none) (hTI : IsPair s.heap TI (.ref i1) (.ref i2)) (hTO : IsPair s.heap TO a b)
    (h1 : N1 k1 s.heap) (h2 : N2 k2 s.heap) (hl1 : D1 xs s.heap) (hl2 : D2 ys s.heap) (hx : xs[k1]? = some x) (hy : ys[k2]? = some y)
    (hQ : ∀ h', IsZip h' z TI TO (rawInt s.heap.objs.size) → IsPair h' TO x y → N1 (k1 + 1) h' → N2 (k2 + 1) h' → IsPair h' s.heap.objs.size x y → h'.objs.size = s.heap.objs.size + 1 →
      (∀ c o, c ≠ z → c ≠ TO → c ≠ i1 → c ≠ i2 → s.heap.get? c = some o → h'.get? c = some o) → Q (.ref s.heap.objs.size) { s with heap := h' }) :
    wpAny (model prog w) A (Builtin.«zip.__next__» ⟨[.ref z], []⟩) (fun fin s' => ∃ v, fin = .done (.ret v) ∧ Q v s') E s := by
  show wpAny _ _ (field (.ref z) 2 >>= _) _ _ _
  refine wpAny_bind (wpAny_field hz rfl (x := .bool false) rfl ?_)
  show wpAny _ _ (field (.ref z) 3 >>= _) _ _ _
  refine wpAny_bind (wpAny_field hz rfl (x := .ref TI) rfl ?_)
  refine wpAny_bind (wpAny_seqItems hTI rfl ?_)
  show wpAny _ _ (Builtin.SmallTypes.ownedTupleIsFree (.ref z) >>= _) _ _ _
  refine wpAny_bind ?_
  unfold Builtin.SmallTypes.ownedTupleIsFree
  refine wpAny_bind (wpAny_field hz rfl (x := .none) rfl (wpAny_pure ?_))
  simp only [if_true]
  refine wpAny_bind (wpAny_rule ?_)
  refine wpAny_bind (wpAny_field hz rfl (x := .ref TO) rfl ?_)
  refine wpAny_bind (wpAny_setField_rec hz (by simp) fun h₁ hz₁ hs₁ => ?_)
  replace hz₁ : IsZip h₁ z TI TO .ellipsis := hz₁
  refine wpAny_bind ?_
  simp only [List.zipIdx_cons, List.zipIdx_nil, List.forIn_cons, List.forIn_nil]
  refine wpAny_bind (wpAny_bind (wpAny_onRaise ?_))
  show wpAny _ _ (Builtin.SmallTypes.nextOf (.ref i1) >>= _) _ _ _
  refine wpAny_bind (S1.item _ _ _ _ _ _ _ (S1.keepN _ _ _ h1 fun o e => hs₁.extBut _ _ D.i1z e) (S1.keepD _ _ _ hl1 fun c hc o e => hs₁.extBut _ _ (D.k1 c hc).1 e) hx fun h₂ h1₂ hs₂ => wpAny_pure ?_)
  have hTO₂ : IsPair h₂ TO a b := hs₂.extBut _ _ D.TOi1 (hs₁.extBut _ _ D.TOz hTO)
  refine wpAny_bind (wpAny_seqItems hTO₂ rfl ?_)
  refine wpAny_bind (wpAny_updateSeq_pair hTO₂ fun h₃ hTO₃ hs₃ => ?_)
  replace hTO₃ : IsPair h₃ TO x b := hTO₃
  refine wpAny_bind (wpAny_letGo (wpAny_pure ?_))
  refine wpAny_bind (wpAny_bind (wpAny_onRaise ?_))
  show wpAny _ _ (Builtin.SmallTypes.nextOf (.ref i2) >>= _) _ _ _
  refine wpAny_bind (S2.item _ _ _ _ _ _ _ (S2.keepN _ _ _ h2 fun o e => hs₃.extBut _ _ D.TOi2.symm (hs₂.extBut _ _ D.i12.symm (hs₁.extBut _ _ D.i2z e)))
    (S2.keepD _ _ _ hl2 fun c hc o e => hs₃.extBut _ _ (D.k2 c hc).2.1 (hs₂.extBut _ _ (D.k2 c hc).2.2.1 (hs₁.extBut _ _ (D.k2 c hc).1 e))) hy fun h₄ h2₄ hs₄ => wpAny_pure ?_)
  have hTO₄ : IsPair h₄ TO x b := hs₄.extBut _ _ D.TOi2 hTO₃
  refine wpAny_bind (wpAny_seqItems hTO₄ rfl ?_)
  refine wpAny_bind (wpAny_updateSeq_pair hTO₄ fun h₅ hTO₅ hs₅ => ?_)
  replace hTO₅ : IsPair h₅ TO x y := hTO₅
  refine wpAny_bind (wpAny_letGo (wpAny_pure (wpAny_pure ?_)))
  refine wpAny_bind (wpAny_seqItems hTO₅ rfl ?_)
  refine wpAny_bind (wpAny_newTuple ?_)
  have hsz : h₅.objs.size = s.heap.objs.size := by rw [hs₅.1, hs₄.1, hs₃.1, hs₂.1, hs₁.1]
  have hz₅ : IsZip h₅ z TI TO .ellipsis := hs₅.extBut _ _ D.TOz.symm (hs₄.extBut _ _ D.i2z.symm (hs₃.extBut _ _ D.TOz.symm (hs₂.extBut _ _ D.i1z.symm hz₁)))
  have hk₅ : ∀ c o, c ≠ z → c ≠ TO → c ≠ i1 → c ≠ i2 → s.heap.get? c = some o → h₅.get? c = some o := fun c o c1 c2 c3 c4 e =>
    hs₅.extBut _ _ c2 (hs₄.extBut _ _ c4 (hs₃.extBut _ _ c2 (hs₂.extBut _ _ c3 (hs₁.extBut _ _ c1 e))))
  have h1₅ : N1 (k1 + 1) h₅ := S1.keepN _ _ _ h1₂ fun o e => hs₅.extBut _ _ D.TOi1.symm (hs₄.extBut _ _ D.i12 (hs₃.extBut _ _ D.TOi1.symm e))
  have h2₅ : N2 (k2 + 1) h₅ := S2.keepN _ _ _ h2₄ fun o e => hs₅.extBut _ _ D.TOi2.symm e
  have hzlt : z < h₅.objs.size := Heap.lt_size hz₅
  show wpAny _ _ (Builtin.SmallTypes.ownedTupleHandOut (.ref z) (.ref h₅.objs.size) >>= _) _ _ _
  refine wpAny_bind ?_
  unfold Builtin.SmallTypes.ownedTupleHandOut
  have hz₆ : IsZip (h₅.push { cls := .type "tuple", data := .seq #[x, y] }) z TI TO .ellipsis := Heap.get?_push_of_some _ hz₅
  refine wpAny_bind (wpAny_setField_rec hz₆ (by simp) fun h₇ hz₇ hs₇ => ?_)
  replace hz₇ : IsZip h₇ z TI TO (rawInt h₅.objs.size) := hz₇
  refine wpAny_setField_rec hz₇ (by simp) fun h₈ hz₈ hs₈ => ?_
  replace hz₈ : IsZip h₈ z TI TO (rawInt h₅.objs.size) := hz₈
  have up : ∀ c o, c ≠ z → h₅.get? c = some o → h₈.get? c = some o := fun c o c1 e => hs₈.extBut _ _ c1 (hs₇.extBut _ _ c1 (Heap.get?_push_of_some _ e))
  have hT₈ : IsPair h₈ h₅.objs.size x y := hs₈.extBut _ _ (Nat.ne_of_gt hzlt) (hs₇.extBut _ _ (Nat.ne_of_gt hzlt) (Heap.get?_push_size _ rfl))
  have hz8 : h₈.objs.size = h₅.objs.size + 1 := by rw [hs₈.1, hs₇.1, Heap.size_push]
  rw [hsz] at hz₈ hT₈ hz8
  refine wpAny_pure ⟨_, rfl, ?_⟩
  show Q (.ref h₅.objs.size) _
  rw [hsz]
  exact hQ h₈ hz₈ (up _ _ D.TOz hTO₅) (S1.keepN _ _ _ h1₅ fun o e => up _ o D.i1z e) (S2.keepN _ _ _ h2₅ fun o e => up _ o D.i2z e) hT₈ hz8 fun c o c1 c2 c3 c4 e => up c o c1 (hk₅ c o c1 c2 c3 c4 e)
theorem next_end {z TI TO i1 i2 : Addr} {k1 k2 : Nat} {xs ys : List Value} {a b : Value} {Q : Fin → Shared → Prop} (hh : A.handled = none) (D : Apart z TI TO i1 i2 ks1 ks2) (S1 : Src prog w i1 ks1 N1 D1) (S2 : Src prog w i2 ks2 N2 D2)
    (hz : IsZip s.heap z TI TO .none) (hTI : IsPair s.heap TI (.ref i1) (.ref i2)) (hTO : IsPair s.heap TO a b)
    (h1 : N1 k1 s.heap) (h2 : N2 k2 s.heap) (hl1 : D1 xs s.heap) (hl2 : D2 ys s.heap) (hend : xs[k1]? = none ∨ ys[k2]? = none)
    (hE : ∀ h' e, (∀ c o, c ≠ z → c ≠ TO → c ≠ i1 → c ≠ i2 → s.heap.get? c = some o → h'.get? c = some o) → (∃ o, h'.get? e = some o ∧ o.cls = .type "StopIteration") → E (.ref e) { s with heap := h' }) :
    wpAny (model prog w) A (Builtin.«zip.__next__» ⟨[.ref z], []⟩) Q E s := by
  show wpAny _ _ (field (.ref z) 2 >>= _) _ _ _
  refine wpAny_bind (wpAny_field hz rfl (x := .bool false) rfl ?_)
  show wpAny _ _ (field (.ref z) 3 >>= _) _ _ _
  refine wpAny_bind (wpAny_field hz rfl (x := .ref TI) rfl ?_)
  refine wpAny_bind (wpAny_seqItems hTI rfl ?_)
  show wpAny _ _ (Builtin.SmallTypes.ownedTupleIsFree (.ref z) >>= _) _ _ _
  refine wpAny_bind ?_
  unfold Builtin.SmallTypes.ownedTupleIsFree
  refine wpAny_bind (wpAny_field hz rfl (x := .none) rfl (wpAny_pure ?_))
  simp only [if_true]
  refine wpAny_bind (wpAny_rule ?_)
  refine wpAny_bind (wpAny_field hz rfl (x := .ref TO) rfl ?_)
  refine wpAny_bind (wpAny_setField_rec hz (by simp) fun h₁ hz₁ hs₁ => ?_)
  replace hz₁ : IsZip h₁ z TI TO .ellipsis := hz₁
  refine wpAny_bind ?_
  simp only [List.zipIdx_cons, List.zipIdx_nil, List.forIn_cons, List.forIn_nil]
  refine wpAny_bind (wpAny_bind (wpAny_onRaise ?_))
  show wpAny _ _ (Builtin.SmallTypes.nextOf (.ref i1) >>= _) _ _ _
  have n1 := S1.keepN _ _ _ h1 fun o e => hs₁.extBut _ _ D.i1z e
  have d1 := S1.keepD _ _ _ hl1 fun c hc o e => hs₁.extBut _ _ (D.k1 c hc).1 e
  cases hx : xs[k1]? with
  | none =>
    refine wpAny_bind (S1.done _ _ _ _ _ _ hh n1 d1 hx fun h₂ e hs₂ he => ?_)
    obtain ⟨oe, hoe, hce⟩ := he
    have hz₂ : IsZip h₂ z TI TO .ellipsis := hs₂ _ _ D.i1z.symm hz₁
    have hez : e ≠ z := fun x => by subst x; rw [hz₂] at hoe; cases hoe; simp at hce
    refine wpAny_setField_rec hz₂ (by simp) fun h₃ _ hs₃ => hE h₃ e (fun c o c1 _ c3 _ x => hs₃.extBut _ _ c1 (hs₂ _ _ c3 (hs₁.extBut _ _ c1 x))) ⟨oe, hs₃.extBut _ _ hez hoe, hce⟩
  | some x =>
    have hy : ys[k2]? = none := by rcases hend with h | h; rw [hx] at h; cases h; exact h
    refine wpAny_bind (S1.item _ _ _ _ _ _ _ n1 d1 hx fun h₂ h1₂ hs₂ => wpAny_pure ?_)
    have hTO₂ : IsPair h₂ TO a b := hs₂.extBut _ _ D.TOi1 (hs₁.extBut _ _ D.TOz hTO)
    refine wpAny_bind (wpAny_seqItems hTO₂ rfl ?_)
    refine wpAny_bind (wpAny_updateSeq_pair hTO₂ fun h₃ hTO₃ hs₃ => ?_)
    refine wpAny_bind (wpAny_letGo (wpAny_pure ?_))
    refine wpAny_bind (wpAny_bind (wpAny_onRaise ?_))
    show wpAny _ _ (Builtin.SmallTypes.nextOf (.ref i2) >>= _) _ _ _
    refine wpAny_bind (S2.done _ _ _ _ _ _ hh (S2.keepN _ _ _ h2 fun o e => hs₃.extBut _ _ D.TOi2.symm (hs₂.extBut _ _ D.i12.symm (hs₁.extBut _ _ D.i2z e)))
      (S2.keepD _ _ _ hl2 fun c hc o e => hs₃.extBut _ _ (D.k2 c hc).2.1 (hs₂.extBut _ _ (D.k2 c hc).2.2.1 (hs₁.extBut _ _ (D.k2 c hc).1 e))) hy fun h₄ e hs₄ he => ?_)
    obtain ⟨oe, hoe, hce⟩ := he
    have hz₄ : IsZip h₄ z TI TO .ellipsis := hs₄ _ _ D.i2z.symm (hs₃.extBut _ _ D.TOz.symm (hs₂.extBut _ _ D.i1z.symm hz₁))
    have hez : e ≠ z := fun x => by subst x; rw [hz₄] at hoe; cases hoe; simp at hce
    refine wpAny_setField_rec hz₄ (by simp) fun h₅ _ hs₅ => hE h₅ e (fun c o c1 c2 c3 c4 x => hs₅.extBut _ _ c1 (hs₄ _ _ c4 (hs₃.extBut _ _ c2 (hs₂.extBut _ _ c3 (hs₁.extBut _ _ c1 x))))) ⟨oe, hs₅.extBut _ _ hez hoe, hce⟩
theorem py_item {z TI TO i1 i2 : Addr} {k1 k2 : Nat} {xs ys : List Value} {x y a b : Value} {Q : Option Value → Shared → Prop} (D : Apart z TI TO i1 i2 ks1 ks2) (S1 : Src prog w i1 ks1 N1 D1) (S2 : Src prog w i2 ks2 N2 D2)
    (hz : IsZip s.heap z TI TO .none) (hTI : IsPair s.heap TI (.ref i1) (.ref i2)) (hTO : IsPair s.heap TO a b)
    (h1 : N1 k1 s.heap) (h2 : N2 k2 s.heap) (hl1 : D1 xs s.heap) (hl2 : D2 ys s.heap) (hx : xs[k1]? = some x) (hy : ys[k2]? = some y)
    (hQ : ∀ h', IsZip h' z TI TO (rawInt s.heap.objs.size) → IsPair h' TO x y → N1 (k1 + 1) h' → N2 (k2 + 1) h' → IsPair h' s.heap.objs.size x y → h'.objs.size = s.heap.objs.size + 1 →
      (∀ c o, c ≠ z → c ≠ TO → c ≠ i1 → c ≠ i2 → s.heap.get? c = some o → h'.get? c = some o) → Q (some (.ref s.heap.objs.size)) { s with heap := h' }) :
    wpAny (model prog w) A (pyNext (.ref z)) Q E s := by
  have hT : s.TypeIs (.ref z) "zip" := ⟨_, hz, rfl⟩
  unfold pyNext
  exact wpAny_bind (wpAny_attempt (wpAny_callSpecial?_slot (name := Str.ofString "__next__") hT F.slot_zip_next
    (wpAny_call_entry F.slot_zip_next hT F.entry_zip_next
      (next_item D S1 S2 hz hTI hTO h1 h2 hl1 hl2 hx hy fun h' a1 a2 a3 a4 a5 a6 a7 => wpAny_pure (hQ h' a1 a2 a3 a4 a5 a6 a7)) (F.args_zip_next_1 _))))
theorem py_end {z TI TO i1 i2 : Addr} {k1 k2 : Nat} {xs ys : List Value} {a b : Value} {Q : Option Value → Shared → Prop} (hh : A.handled = none) (D : Apart z TI TO i1 i2 ks1 ks2) (S1 : Src prog w i1 ks1 N1 D1) (S2 : Src prog w i2 ks2 N2 D2)
    (hz : IsZip s.heap z TI TO .none) (hTI : IsPair s.heap TI (.ref i1) (.ref i2)) (hTO : IsPair s.heap TO a b)
    (h1 : N1 k1 s.heap) (h2 : N2 k2 s.heap) (hl1 : D1 xs s.heap) (hl2 : D2 ys s.heap) (hend : xs[k1]? = none ∨ ys[k2]? = none)
    (hQ : ∀ h', (∀ c o, c ≠ z → c ≠ TO → c ≠ i1 → c ≠ i2 → s.heap.get? c = some o → h'.get? c = some o) → Q none { s with heap := h' }) : wpAny (model prog w) A (pyNext (.ref z)) Q E s := by
  have hT : s.TypeIs (.ref z) "zip" := ⟨_, hz, rfl⟩
  unfold pyNext
  refine wpAny_bind (wpAny_attempt (wpAny_callSpecial?_slot (name := Str.ofString "__next__") hT F.slot_zip_next
    (wpAny_call_entry F.slot_zip_next hT F.entry_zip_next (next_end hh D S1 S2 hz hTI hTO h1 h2 hl1 hl2 hend fun h' e hk he => ?_) (F.args_zip_next_1 _))))
  obtain ⟨o, ho, hc⟩ := he
  refine wpAny_bind (wpAny_isInstance (T := "StopIteration") (b := true) ⟨o, ho, hc⟩ isSubtype_stop ?_)
  exact wpAny_pure (hQ _ hk)
end
/-- pyIter of v lays one object -/
def Lays (P : Program) (w : World) (h : Heap) (v : Value) (o : Obj) : Prop := ∀ (A : Around) (E Q : Value → Shared → Prop) (s : Shared), s.heap = h → Q (.ref h.objs.size) { s with heap := h.push o } → wpAny (model P w) A (pyIter v) Q E s
abbrev zH2 (h : Heap) (o1 o2 : Obj) : Heap := (h.push o1).push o2
abbrev zH3 (h : Heap) (o1 o2 : Obj) : Heap := (zH2 h o1 o2).push { cls := .type "tuple", data := .seq #[.ref h.objs.size, .ref (h.push o1).objs.size] }
abbrev zH4 (h : Heap) (o1 o2 : Obj) : Heap := (zH3 h o1 o2).push { cls := .type "tuple", data := .seq #[.none, .none] }
abbrev zH5 (h : Heap) (o1 o2 : Obj) : Heap := (zH4 h o1 o2).push { cls := .type "zip", data := .fields #[.none, .bool false, .bool false, .ref (zH2 h o1 o2).objs.size, .ref (zH3 h o1 o2).objs.size] }
theorem meets_new {prog : Program} {w : World} (a1 a2 : Addr) (o1 o2 : Obj) :
    MeetsIn prog w (Builtin.«zip.__new__» ⟨[.type "zip", .ref a1, .ref a2], []⟩) (fun _ R s => Lays prog w s.heap (.ref a1) o1 ∧ Lays prog w (s.heap.push o1) (.ref a2) o2 ∧
      R (.ok (.ret (.ref (zH4 s.heap o1 o2).objs.size))) { s with heap := zH5 s.heap o1 o2 }) :=
  .of_wp fun A R s h => by
    obtain ⟨hp, g, d, tk, os⟩ := s; obtain ⟨hl1, hl2, h⟩ := h
    have hsub := sub_zip
    have hL1 : ∀ {A : Around} {E Q : Value → Shared → Prop}, Q (.ref hp.objs.size) ⟨hp.push o1, g, d, tk, os⟩ → wpAny (model prog w) A (pyIter (.ref a1)) Q E ⟨hp, g, d, tk, os⟩ := fun {A E Q} q => hl1 A E Q ⟨hp, g, d, tk, os⟩ rfl q
    have hL2 : ∀ {A : Around} {E Q : Value → Shared → Prop}, Q (.ref (hp.push o1).objs.size) ⟨(hp.push o1).push o2, g, d, tk, os⟩ → wpAny (model prog w) A (pyIter (.ref a2)) Q E ⟨hp.push o1, g, d, tk, os⟩ := fun {A E Q} q => hl2 A E Q ⟨hp.push o1, g, d, tk, os⟩ rfl q
    wp_walk using hL1, hL2
    exact ⟨_, rfl, h⟩
end L2.Zg

namespace L2.Zg
open PySem PySem.Spec PyProof.Rows L2
open PySem.Sem (wp)
section
variable {prog : Program} {w : World} {A : Around} {E : Value → Shared → Prop} {s : Shared}
theorem call_zip2 {a1 a2 : Addr} {o1 o2 : Obj} {Q : Value → Shared → Prop} (hl1 : Lays prog w s.heap (.ref a1) o1) (hl2 : Lays prog w (s.heap.push o1) (.ref a2) o2) (f1 : o1.isFreed = false) (f2 : o2.isFreed = false)
    (h : ∀ h', IsZip h' (s.heap.objs.size + 4) (s.heap.objs.size + 2) (s.heap.objs.size + 3) .none → IsPair h' (s.heap.objs.size + 2) (.ref s.heap.objs.size) (.ref (s.heap.objs.size + 1)) →
      IsPair h' (s.heap.objs.size + 3) .none .none → h'.get? s.heap.objs.size = some o1 → h'.get? (s.heap.objs.size + 1) = some o2 → h'.objs.size = s.heap.objs.size + 5 →
      (∀ c o, s.heap.get? c = some o → h'.get? c = some o) → Q (.ref (s.heap.objs.size + 4)) { s with heap := h' }) :
    wpAny (model prog w) A (call (.type "zip") [.ref a1, .ref a2]) Q E s := by
  refine callType_newIn F.called_zip (by decide) (F.typeCall_zip_2 _ _) (F.newCall_zip_2 _ _) (fun obj => F.args_object_init_3 obj _ _) F.entry_zip_new
    (meets_new a1 a2 o1 o2) ⟨hl1, hl2, ?_⟩
  have z1 : (s.heap.push o1).objs.size = s.heap.objs.size + 1 := Heap.size_push ..
  have z2 : (zH2 s.heap o1 o2).objs.size = s.heap.objs.size + 2 := by rw [Heap.size_push, z1]
  have z3 : (zH3 s.heap o1 o2).objs.size = s.heap.objs.size + 3 := by rw [Heap.size_push, z2]
  have z4 : (zH4 s.heap o1 o2).objs.size = s.heap.objs.size + 4 := by rw [Heap.size_push, z3]
  have z5 : (zH5 s.heap o1 o2).objs.size = s.heap.objs.size + 5 := by rw [Heap.size_push, z4]
  have g5 : (zH5 s.heap o1 o2).get? (zH4 s.heap o1 o2).objs.size = some _ := Heap.get?_push_size _ rfl
  have g4 : (zH5 s.heap o1 o2).get? (zH3 s.heap o1 o2).objs.size = some _ := Heap.get?_push_of_some _ (Heap.get?_push_size _ rfl)
  have g3 : (zH5 s.heap o1 o2).get? (zH2 s.heap o1 o2).objs.size = some _ := Heap.get?_push_of_some _ (Heap.get?_push_of_some _ (Heap.get?_push_size _ rfl))
  have g2 : (zH5 s.heap o1 o2).get? (s.heap.push o1).objs.size = some _ := Heap.get?_push_of_some _ (Heap.get?_push_of_some _ (Heap.get?_push_of_some _ (Heap.get?_push_size _ f2)))
  have g1 : (zH5 s.heap o1 o2).get? s.heap.objs.size = some _ := Heap.get?_push_of_some _ (Heap.get?_push_of_some _ (Heap.get?_push_of_some _ (Heap.get?_push_of_some _ (Heap.get?_push_size _ f1))))
  show _ ∧ _
  rw [z2, z3, z4] at g5
  rw [z1, z2] at g3
  rw [z3] at g4
  rw [z1] at g2
  rw [z4]
  exact ⟨⟨_, g5, rfl⟩, h _ g5 g3 g4 g1 g2 z5 fun c o x =>
    Heap.get?_push_of_some _ (Heap.get?_push_of_some _ (Heap.get?_push_of_some _ (Heap.get?_push_of_some _ (Heap.get?_push_of_some _ x))))⟩
end
/-- what a source walks, as the tracked heap tells it -/
structure VSrc (P : Program) (w : World) (K : PySem.W.Frag) (it : Addr) (ks : List Addr) (N : Nat → Heap → Prop) (Dt : List Value → Heap → Prop) (S : Hp → List V → Prop) : Prop where
  src : Src P w it ks N Dt
  sem : ∀ (X : Cx), X.prog = P → X.w = w → X.K = K → ∀ (pins : List (Addr × Obj)) (σ : L2.St) (H : Hp) (s : Shared) (xs : List V), Inv X pins σ H s → S H xs → ∃ us, Vals xs us ∧ Dt us s.heap
  inj : ∀ (X : Cx), X.prog = P → X.w = w → X.K = K → ∀ (pins : List (Addr × Obj)) (σ : L2.St) (H : Hp) (s : Shared) (xs ys : List V), Inv X pins σ H s → S H xs → S H ys → xs = ys
def Itz2 (S1 S2 : Hp → List V → Prop) : It :=
  ⟨fun i H => ∃ (xs ys : List V) (x y : V), S1 H xs ∧ S2 H ys ∧ xs[i]? = some x ∧ ys[i]? = some y,
    fun i H v H' => ∃ T x y, v = .ref T ∧ H T = none ∧ H' = upd H T (.tup [x, y]) ∧ (∀ xs, S1 H xs → xs[i]? = some x) ∧ ∀ ys, S2 H ys → ys[i]? = some y,
    fun i H => ∃ xs ys : List V, S1 H xs ∧ S2 H ys ∧ (xs.length ≤ i ∨ ys.length ≤ i)⟩
theorem turn2 {P : Program} {w : World} {K : PySem.W.Frag} {elts : List Expr} {kk : Nat} {tpos : Pos} {z TI TO i1 i2 : Addr} {ks1 ks2 : List Addr} {N1 N2 : Nat → Heap → Prop} {D1 D2 : List Value → Heap → Prop} {S1 S2 : Hp → List V → Prop}
    (D : Apart z TI TO i1 i2 ks1 ks2) (V1 : VSrc P w K i1 ks1 N1 D1 S1) (V2 : VSrc P w K i2 ks2 N2 D2 S2) :
    Turn P w K (.Tuple elts kk tpos) (Itz2 S1 S2) [z, TI, TO, i1, i2] z (fun i h => IsZip h z TI TO .none ∧ IsPair h TI (.ref i1) (.ref i2) ∧ (∃ x y, IsPair h TO x y) ∧ N1 i h ∧ N2 i h) where
  mem := by simp
  obj := fun i h st c hc => by
    obtain ⟨hz, hTI, ⟨x, y, hTO⟩, n1, n2⟩ := st
    have e' : c = z ∨ c = TI ∨ c = TO ∨ c = i1 ∨ c = i2 := by simpa using hc
    rcases e' with q | q | q | q | q
    · rw [q]; exact ⟨_, hz, fun v q => nomatch q⟩
    · rw [q]; exact ⟨_, hTI, fun v q => nomatch q⟩
    · rw [q]; exact ⟨_, hTO, fun v q => nomatch q⟩
    · rw [q]; exact V1.src.obj _ _ n1
    · rw [q]; exact V2.src.obj _ _ n2
  keep := fun i h h' st k => by
    obtain ⟨hz, hTI, ⟨x, y, hTO⟩, h1, h2⟩ := st
    exact ⟨k z (by simp) _ hz, k TI (by simp) _ hTI, ⟨x, y, k TO (by simp) _ hTO⟩, V1.src.keepN _ _ _ h1 fun o q => k i1 (by simp) o q, V2.src.keepN _ _ _ h2 fun o q => k i2 (by simp) o q⟩
  item := by
    intro X hP hw hK hc i pins s σ H E I hf st hg
    subst hP hw hK
    obtain ⟨hz, hTI, ⟨x0, y0, hTO⟩, h1, h2⟩ := st
    obtain ⟨xs, ys, x, y, hqx, hqy, hx, hy⟩ := hg
    obtain ⟨us, rv, p⟩ := V1.sem X rfl rfl rfl _ _ _ _ _ I hqx
    obtain ⟨us2, rv2, p2⟩ := V2.sem X rfl rfl rfl _ _ _ _ _ I hqy
    obtain ⟨u, hu, ru⟩ := rv.get hx
    obtain ⟨u2, hu2, ru2⟩ := rv2.get hy
    have hzl : z < s.heap.objs.size := Heap.lt_size hz
    obtain ⟨b1, hb1, _⟩ := V1.src.obj _ _ h1
    obtain ⟨b2, hb2, _⟩ := V2.src.obj _ _ h2
    refine py_item D V1.src V2.src hz hTI hTO h1 h2 p p2 hu hu2 fun h' z' TO' h1' h2' hT hsz hk => ?_
    refine ⟨_, rfl, wpAny_letOwnedTupleGo_zip (s := { s with heap := h' }) z' fun h'' z'' sb => ?_⟩
    have hT2 : h''.get? s.heap.objs.size = some { cls := .type "tuple", data := .seq #[u, u2] } := (sb.2 _ (Nat.ne_of_gt hzl)).trans hT
    have new : ObjOk X.prog X.w (upd H s.heap.objs.size (.tup [x, y])) h'' s.heap.objs.size (.tup [x, y]) :=
      ⟨by show 2 ≤ sizeLine; decide, [u, u2], .cons ru (.cons ru2 .nil), ⟨_, hT2, rfl, _, rfl⟩⟩
    have I1 : Inv X pins σ (upd H s.heap.objs.size (.tup [x, y])) { s with heap := h'' } :=
      I.turnedNew (t' := s.toks) (ch := [z, TI, TO, i1, i2]) (fun c o hb q => (sb.2 c (fun q' => hb (by simp [q']))).trans (hk c o (fun q' => hb (by simp [q'])) (fun q' => hb (by simp [q'])) (fun q' => hb (by simp [q'])) (fun q' => hb (by simp [q'])) q)) hf (Nat.le_refl _) new
    refine ⟨.ref s.heap.objs.size, _, I1, rfl, ⟨_, x, y, rfl, I.hok.fresh (Nat.le_refl _), rfl, fun l hl => by rw [V1.inj X rfl rfl rfl _ _ _ _ _ _ I hl hqx]; exact hx, fun l hl => by rw [V2.inj X rfl rfl rfl _ _ _ _ _ _ I hl hqy]; exact hy⟩, ⟨z'', ?_, ⟨u, u2, ?_⟩, ?_, ?_⟩, fun c hcm => ?_⟩
    · exact (sb.2 _ D.TIz).trans (hk _ _ D.TIz D.TITO D.TIi1 D.TIi2 hTI)
    · exact (sb.2 _ D.TOz).trans TO'
    · exact V1.src.keepN _ _ _ h1' fun o q => (sb.2 _ D.i1z).trans q
    · exact V2.src.keepN _ _ _ h2' fun o q => (sb.2 _ D.i2z).trans q
    · have hlt : c < s.heap.objs.size := by
        have e' : c = z ∨ c = TI ∨ c = TO ∨ c = i1 ∨ c = i2 := by simpa using hcm
        rcases e' with q | q | q | q | q
        · rw [q]; exact hzl
        · rw [q]; exact Heap.lt_size hTI
        · rw [q]; exact Heap.lt_size hTO
        · rw [q]; exact Heap.lt_size hb1
        · rw [q]; exact Heap.lt_size hb2
      rw [upd_ne (Nat.ne_of_lt hlt)]
      exact (hf c hcm).1
  done := by
    intro X hP hw hK hc i pins s σ H E I hf st hg
    subst hP hw hK
    obtain ⟨hz, hTI, ⟨x0, y0, hTO⟩, h1, h2⟩ := st
    obtain ⟨xs, ys, hqx, hqy, hend⟩ := hg
    obtain ⟨us, rv, p⟩ := V1.sem X rfl rfl rfl _ _ _ _ _ I hqx
    obtain ⟨us2, rv2, p2⟩ := V2.sem X rfl rfl rfl _ _ _ _ _ I hqy
    have l1 := rv.length
    have l2 := rv2.length
    have he : us[i]? = none ∨ us2[i]? = none := by
      rcases hend with q | q
      · exact .inl (List.getElem?_eq_none (by omega))
      · exact .inr (List.getElem?_eq_none (by omega))
    exact py_end (I.ok.hd hc) D V1.src V2.src hz hTI hTO h1 h2 p p2 he fun h' hk => ⟨rfl, I.turnedL (t' := s.toks) (ch := [z, TI, TO, i1, i2]) (fun c o hb q =>
      hk c o (fun q' => hb (by simp [q'])) (fun q' => hb (by simp [q'])) (fun q' => hb (by simp [q'])) (fun q' => hb (by simp [q'])) q) hf⟩
  self := fun A i s Q E st h => wpAny_pyIter_zip st.1 h
theorem vs_lst {P : Program} {w : World} {K : PySem.W.Frag} {it l : Addr} : VSrc P w K it [l] (fun k h => h.IsListIter it l k) (fun xs h => h.IsList l xs.toArray) (fun H xs => SqL K H l xs) where
  src := src_lst
  sem := fun X hP hw hK pins σ H s xs I q => by
    subst hP hw hK
    obtain ⟨its, rv, p, _⟩ := I.list q
    exact ⟨its, rv, p.isList⟩
  inj := fun X hP hw hK pins σ H s xs ys I q q2 => by
    subst hP hw hK
    exact I.list_inj q q2
theorem vs_tup {P : Program} {w : World} {K : PySem.W.Frag} {it l : Addr} : VSrc P w K it [l] (fun k h => h.IsTupleIter it l k) (fun xs h => h.IsTuple l xs.toArray) (fun H xs => SqT K H l xs) where
  src := src_tup
  sem := fun X hP hw hK pins σ H s xs I q => by
    subst hP hw hK
    obtain ⟨its, rv, p, _⟩ := I.tuple q
    exact ⟨its, rv, p⟩
  inj := fun X hP hw hK pins σ H s xs ys I q q2 => by
    subst hP hw hK
    exact I.tuple_inj q q2
theorem kv_vals {κ : Type} {kvs : List (κ × V)} {vs : List (κ × Value)} (h : KV kvs vs) : Vals (kvs.map (·.2)) (vs.map (·.2)) := by
  unfold KV at h
  induction h with
  | nil => exact .nil
  | cons r t ih => exact .cons r.2 ih
theorem vs_vals {P : Program} {w : World} {K : PySem.W.Frag} {it d : Addr} {o : Obj} {es : Array DictEntry} {ep : Nat} (hod : o.data = .dict es ep) :
    VSrc P w K it [d] (fun k h => h.IsValIter it d k es.size ep) (fun xs h => ∃ kvs : List (Key × Value), h.DictAt (mixKind P w) d kvs ep ∧ kvs.length = es.size ∧ xs = kvs.map (·.2)) (fun H xs => ∃ kvs, H d = some (.frz o (.dK kvs)) ∧ xs = kvs.map (·.2)) where
  src := src_vals
  sem := fun X hP hw hK pins σ H s xs I q => by
    subst hP hw hK
    obtain ⟨kvs, q, rfl⟩ := q
    obtain ⟨hs, hgd, hx, es', ep', vs, hdt, hsz, kv, hm⟩ := I.frzK q
    rw [hod] at hdt
    cases hdt
    exact ⟨vs.map (·.2), kv_vals kv, vs, hm, by rw [hsz]; exact (Paired.length kv).symm, rfl⟩
  inj := fun X hP hw hK pins σ H s xs ys I q q2 => by
    obtain ⟨kvs, q, rfl⟩ := q
    obtain ⟨kvs2, q2, rfl⟩ := q2
    rw [q] at q2
    cases q2
    rfl
theorem lays_lst {P : Program} {w : World} {h : Heap} {l : Addr} {xs : Array Value} (hl : h.IsList l xs) : Lays P w h (.ref l) { cls := .type "list_iterator", data := .fields #[.ref l, .int 0 0] } := fun A E Q s e q => by
  subst e
  exact wpAny_pyIter_list hl q
theorem lays_tup {P : Program} {w : World} {h : Heap} {l : Addr} {xs : Array Value} (hl : h.IsTuple l xs) : Lays P w h (.ref l) { cls := .type "tuple_iterator", data := .fields #[.ref l, .int 0 0] } := fun A E Q s e q => by
  subst e
  exact wpAny_pyIter_tuple hl q
theorem lays_vals {P : Program} {w : World} {h : Heap} {v d : Addr} {kvs : List (Key × Value)} {ep n : Nat} (hv : h.IsValuesView v d) (hm : h.DictAt (mixKind P w) d kvs ep) (hn : kvs.length = n) :
    Lays P w h (.ref v) { cls := .type "dict_valueiterator", data := .fields #[.ref d, .int 0 0, .int n 0, .int ep 0] } := fun A E Q s e q => by
  subst e
  subst hn
  exact wpAny_pyIter_values hv hm q
/-- zip(d.values(), list or tuple), d known as it stands -/
def iZipV (K : PySem.W.Frag) (td tb : TE) : TI := fun σ H R => td σ H fun x H1 => ∃ d o kvs, x = .ref d ∧ H1 d = some (.frz o (.dK kvs)) ∧ tb σ H1 fun y H2 => ∃ b ys, y = .ref b ∧ H2 d = some (.frz o (.dK kvs)) ∧
  ((SqL K H2 b ys ∧ R (Itz2 (fun H xs => ∃ kvs, H d = some (.frz o (.dK kvs)) ∧ xs = kvs.map (·.2)) (fun H xs => SqL K H b xs)) H2) ∨
   (SqT K H2 b ys ∧ R (Itz2 (fun H xs => ∃ kvs, H d = some (.frz o (.dK kvs)) ∧ xs = kvs.map (·.2)) (fun H xs => SqT K H b xs)) H2))
theorem pin_new {X : Cx} {pins : List (Addr × Obj)} {σ : L2.St} {H : Hp} {s : Shared} {o : Obj} {h' : Heap} {a : Addr} {t' : Nat} (I : Inv X pins σ H s) (k : ∀ b u, s.heap.get? b = some u → h'.get? b = some u) (ha : s.heap.objs.size ≤ a) (ho : h'.get? a = some o) (hc : ∀ v, o.data ≠ .cell v) :
    Inv X ((a, o) :: pins) σ H { s with heap := h', toks := t' } := by
  have J := I.kept (t' := t') k
  refine J.pins_of fun p hp => ?_
  cases hp with
  | head => exact ⟨ho, I.hok.fresh ha, Nat.ne_of_gt (Nat.lt_of_lt_of_le I.lt ha), I.nofs ha, hc⟩
  | tail _ h => exact J.pin p (List.mem_append_right _ h)
theorem pin_off {X : Cx} {pins : List (Addr × Obj)} {σ : L2.St} {H : Hp} {s : Shared} {p : Addr × Obj} (I : Inv X (p :: pins) σ H s) : Inv X pins σ H s ∧ s.heap.get? p.1 = some p.2 :=
  ⟨I.pins_of fun r hr => I.pin r (List.mem_append_right _ (List.mem_cons_of_mem _ hr)), (I.pin p (List.mem_append_right _ List.mem_cons_self)).1⟩
def viewOf (d : Addr) : Obj := { cls := .type "dict_values", data := .fields #[.ref d] }
theorem pi_zipV {X : Cx} {e e2 : Expr} {td tb : TE} {p pos tpos apos cpos : Pos} {elts : List Expr} {kk : Nat} (hg : Gl X "zip") (hm : X.mg "zip" = none) (ha : PE X e td) (hb : PE X e2 tb)
    (hbase : attributeBase e "values" X.env (eval e X.env) = eval e X.env := by rfl) (hline : (apos.endLine == cpos.line) = true := by rfl)
    (hs2 : starEach [e2] X.env = (false, eval e2 X.env) :: starEach [] X.env := by rfl)
    (hs : starEach [.Call (.Attribute e "values" apos) [] [] cpos, e2] X.env = (false, eval (.Call (.Attribute e "values" apos) [] [] cpos) X.env) :: starEach [e2] X.env := by rfl) (hpl : (backTo pos (starEach [e2] X.env)).any (·.1) = false := by rfl) :
    PI X (.Tuple elts kk tpos) (.Call (.Name "zip" p) [.Call (.Attribute e "values" apos) [] [] cpos, e2] [] pos) (iZipV X.K td tb) := by
  refine ⟨fun pins s σ H R I h => ?_⟩
  refine Call_ (ld_blt I hg hm PyProof.Rows.boot_zip (PyProof.Rows.callWith_type1 (PyProof.Rows.args_cons ?_ hs) hs hpl))
  refine wpAny_Call_method (T := "dict") (id := "dict.values") hbase rfl hline F.plainAttrs_dict F.slot_dict_values F.type_dict_values (thn (ha.run pins s σ H _ I h) fun u s1 ⟨x, H1, I1, rx, d, o, kvs, ex, hd, q⟩ => ?_)
  subst ex
  obtain rfl : u = Value.ref d := rx
  obtain ⟨hsm, hgd, hx, es, ep, vs, hdt, hsz, kv, hmm⟩ := I1.frzK hd
  refine ⟨hmm.dictOf.typeIs, hmm.dictOf.mapOf.noDict, ?_⟩
  let v := s1.heap.objs.size
  have I2 : Inv X ((v, viewOf d) :: pins) σ H1 { s1 with heap := s1.heap.push (viewOf d) } := pin_new (t' := s1.toks) I1 (fun b ob q => Heap.get?_push_of_some _ q) (Nat.le_refl _) (Heap.get?_push_size _ rfl) fun v z => nomatch z
  have fin : wpAny (model X.prog X.w) X.A (spliced (backTo pos (starEach [e2] X.env))) (fun vs s₂ => wpAny (model X.prog X.w) X.A (call (.type "zip") (Value.ref v :: vs)) (fun z s3 => wpAny (model X.prog X.w) X.A (pyIter z) (PIE X pins σ (.Tuple elts kk tpos) R) X.xe s3) X.xe s₂) X.xe { s1 with heap := s1.heap.push (viewOf d) } := by
    refine PyProof.Rows.args_cons (thn (hb.run _ _ σ H1 _ I2 q) fun u2 s2 ⟨y, H2, I3, ry, q2⟩ => PyProof.Rows.args_nil ?_) hs2
    obtain ⟨b, ys, rfl, hd2, q2⟩ := q2
    obtain rfl : u2 = Value.ref b := ry
    have hv : s2.heap.get? v = some (viewOf d) := (pin_off I3).2
    have J : Inv X pins σ H2 s2 := (pin_off I3).1
    obtain ⟨_, hgd2, _, es2, ep2, vs2, hdt2, hsz2, kv2, hmm2⟩ := J.frzK hd2
    rw [hdt] at hdt2
    cases hdt2
    have hn2 : vs2.length = es.size := by rw [hsz2]; exact (Paired.length kv2).symm
    have fresh5 : ∀ c, c ∈ [s2.heap.objs.size + 4, s2.heap.objs.size + 2, s2.heap.objs.size + 3, s2.heap.objs.size, s2.heap.objs.size + 1] → FpOk X pins H2 c := fun c hcm => by
      have e' : c = s2.heap.objs.size + 4 ∨ c = s2.heap.objs.size + 2 ∨ c = s2.heap.objs.size + 3 ∨ c = s2.heap.objs.size ∨ c = s2.heap.objs.size + 1 := by simpa using hcm
      have hle : s2.heap.objs.size ≤ c := by
        rcases e' with z | z | z | z | z
        · rw [z]; exact Nat.le_add_right _ _
        · rw [z]; exact Nat.le_add_right _ _
        · rw [z]; exact Nat.le_add_right _ _
        · rw [z]; exact Nat.le_refl _
        · rw [z]; exact Nat.le_add_right _ _
      exact J.fpOk hle (J.hok.fresh hle)
    have l1 := lays_vals (P := X.prog) (w := X.w) (h := s2.heap) (v := v) ⟨_, hv, rfl, rfl⟩ hmm2 hn2
    have kd : ∀ c ∈ [d], Nat.lt c s2.heap.objs.size := fun c hc => by rw [List.mem_singleton.mp hc]; exact Heap.lt_size hgd2
    rcases q2 with ⟨hqy, q⟩ | ⟨hqy, q⟩
    · obtain ⟨its2, rv2, p2, _⟩ := J.list hqy
      have kb : ∀ c ∈ [b], Nat.lt c s2.heap.objs.size := fun c hc => by rw [List.mem_singleton.mp hc]; exact p2.lt
      refine call_zip2 l1 (lays_lst (p2.isList.push _)) rfl rfl fun h' hz hTI hTO h1 h2 hsz hk => wpAny_pyIter_zip hz ?_
      have I4 : Inv X pins σ H2 { s2 with heap := h' } := J.kept (t' := s2.toks) hk
      exact ⟨s2.heap.objs.size + 4, [s2.heap.objs.size + 4, s2.heap.objs.size + 2, s2.heap.objs.size + 3, s2.heap.objs.size, s2.heap.objs.size + 1], _, _, H2, rfl, I4, turn2 (apart s2.heap.objs.size kd kb) (vs_vals hdt) vs_lst, ⟨hz, hTI, ⟨_, _, hTO⟩, ⟨_, h1, rfl, rfl⟩, ⟨_, h2, rfl, rfl⟩⟩, fresh5, q⟩
    · obtain ⟨its2, rv2, p2, _⟩ := J.tuple hqy
      obtain ⟨o2, ho2, _⟩ := id p2
      have kb : ∀ c ∈ [b], Nat.lt c s2.heap.objs.size := fun c hc => by rw [List.mem_singleton.mp hc]; exact Heap.lt_size ho2
      refine call_zip2 l1 (lays_tup (p2.push _)) rfl rfl fun h' hz hTI hTO h1 h2 hsz hk => wpAny_pyIter_zip hz ?_
      have I4 : Inv X pins σ H2 { s2 with heap := h' } := J.kept (t' := s2.toks) hk
      exact ⟨s2.heap.objs.size + 4, [s2.heap.objs.size + 4, s2.heap.objs.size + 2, s2.heap.objs.size + 3, s2.heap.objs.size, s2.heap.objs.size + 1], _, _, H2, rfl, I4, turn2 (apart s2.heap.objs.size kd kb) (vs_vals hdt) vs_tup, ⟨hz, hTI, ⟨_, _, hTO⟩, ⟨_, h1, rfl, rfl⟩, ⟨_, h2, rfl, rfl⟩⟩, fresh5, q⟩
  show wpAny _ _ (callWith cpos (.builtin "dict.values") [.ref d] [] []) _ X.xe s1
  exact method_meetsIn F.slot_dict_values F.entry_dict_values rfl (PySem.evalArgs_none ⟨rfl, hmm.dictOf.typeIs, F.args_dict_values_1 _, _, meets_dict_values (mixKind X.prog X.w) d hsm, ⟨vs, hmm.dictOf⟩, fin⟩)
end L2.Zg

namespace L2.Tr
open PySem PySem.Spec PyProof.Rows
/-! plain data: it stays as it is where only other things change -/
mutual
def plainD : D → Bool
  | .leaf _ => true
  | .seq _ ds => plainDs ds
  | .dct _ _ => false
  | .obj _ _ _ => false
def plainDs : List D → Bool
  | [] => true
  | d :: ds => plainD d && plainDs ds
end
/-- lists and tuples stay -/
def ExS (G G' : Hp) : Prop := ∀ a b us, G a = some (mkS b us) → G' a = some (mkS b us)
mutual
theorem Rep.plain {G G' : Hp} (e : ExS G G') : ∀ {d : D} {v : V}, plainD d = true → Rep G d v → Rep G' d v
  | .leaf x, v, _, h => by obtain ⟨rfl, l⟩ := h.un_lf; exact .lf l
  | .seq b ds, v, p, h => by
    obtain ⟨a, us, rfl, h1, h2, h3⟩ := h.un_sq
    exact .sq (e _ _ _ h1) h2 (Reps.plain e (by simpa [plainD] using p) h3)
  | .dct _ _, v, p, h => by simp [plainD] at p
  | .obj _ _ _, v, p, h => by simp [plainD] at p
theorem Reps.plain {G G' : Hp} (e : ExS G G') : ∀ {ds : List D} {us : List V}, plainDs ds = true → Reps G ds us → Reps G' ds us
  | [], us, _, h => by rw [h.un0]; exact .nil
  | d :: ds, us, p, h => by
    obtain ⟨u, r, rfl, q, t⟩ := h.un
    simp only [plainDs, Bool.and_eq_true] at p
    exact .cons (Rep.plain e p.1 q) (Reps.plain e p.2 t)
end
def cutSl : Sl → Sl
  | .pu d => if plainD d = true then .pu d else .un
  | _ => .un
def cutE (ρ : Env) : Env := ρ.map cutSl
theorem cut_get {ρ : Env} {i : Nat} {d : D} (h : (cutE ρ)[i]? = some (.pu d)) : ρ[i]? = some (.pu d) ∧ plainD d = true := by
  unfold cutE at h
  rw [List.getElem?_map] at h
  obtain ⟨s, h1, h2⟩ := Option.map_eq_some_iff.mp h
  cases s with
  | un => cases h2
  | ow _ => cases h2
  | pu d2 =>
    unfold cutSl at h2
    simp only at h2
    split at h2
    · rename_i hp; cases h2; exact ⟨h1, hp⟩
    · cases h2
theorem cut_ow {ρ : Env} {i : Nat} {d : D} (h : (cutE ρ)[i]? = some (.ow d)) : False := by
  unfold cutE at h
  rw [List.getElem?_map] at h
  obtain ⟨s, h1, h2⟩ := Option.map_eq_some_iff.mp h
  cases s with
  | un => cases h2
  | ow _ => cases h2
  | pu d2 =>
    unfold cutSl at h2
    simp only at h2
    split at h2 <;> cases h2
theorem EnvOk.cut {G H G' H' : Hp} {σ : St} {ρ : Env} (x : EnvOk G H σ ρ) (e : ExS G G') (gh : Ex G' H') : EnvOk G' H' σ (cutE ρ) :=
  ⟨gh, by unfold cutE; rw [List.length_map]; exact x.len, fun i d h => by
    obtain ⟨h1, h2⟩ := cut_get h
    obtain ⟨v, h3, h4⟩ := x.pu i d h1
    exact ⟨v, h3, Rep.plain e h2 h4⟩, fun i d h => (cut_ow h).elim, fun i j ds es p h => (cut_ow h).elim⟩
theorem mkS_ne {b : Bool} {us : List V} {kvs : List (Key × V)} : mkS b us ≠ .dK kvs := fun z => by cases b <;> cases z
section
variable {X : Cx} {K : PySem.W.Frag} {tg elt e2 : Expr} {tb : TE} {φ φb : Env → Option D} {θ : D → Env → Option Env} {pos : Pos}
theorem walk_v2 {S1 S2 : Hp → List V → Prop} {xs ys : List V} {n : Nat} (hn : n = min xs.length ys.length) : Walk (Zg.Itz2 S1 S2) n (fun H => S1 H xs ∧ S2 H ys) (YPair (fun i => xs[i]?) (fun i => ys[i]?)) := by
  subst hn
  refine ⟨fun i _ hi q => ?_, fun _ q => ⟨xs, ys, q.1, q.2, by omega⟩, fun i H v H' _ q y => ?_⟩
  · have h1 : i < xs.length := by omega
    have h2 : i < ys.length := by omega
    exact ⟨xs, ys, xs[i], ys[i], q.1, q.2, List.getElem?_eq_getElem _, List.getElem?_eq_getElem _⟩
  · obtain ⟨T, x, z, h1, h2, h3, h4, h5⟩ := y
    exact ⟨T, x, z, h1, h2, h3, h4 xs q.1, h5 ys q.2⟩
/-- what all([elt for tg in zip(self.f.values(), e2)]) tells -/
def allZipF (i : Nat) (C0 : Addr) (f : Str) (φb : Env → Option D) (vs : List Nat) (θ : D → Env → Option Env) (φ : Env → Option D) : Env → Option D := fun ρ => match ρ[i]? with
  | some (.pu o) => (fldD C0 f o).bind fun d => match d with
    | .dct ks xs => if plainDs xs = true then (φb (cutE ρ)).bind fun y => match y with
      | .seq _ ys => if (zipL xs ys).length ≤ Lim then (compF θ yesF φ (zipL xs ys) (wipeE (cutE ρ) vs)).bind fun zs => (boolsOf zs).map fun bs => bD (bs.all id) else none
      | _ => none
      else none
    | _ => none
  | _ => none
theorem pu_allZip {i : Nat} {C0 : Addr} {f : Str} {p p2 fpos tpos zpos apos cpos lpos : Pos} {elts : List Expr} {kk : Nat} {scope : Scope} {o : Expr} (own : List (Str × Nat)) (hc : X.calm = true) (hN : X.N.Nodup) (cl : Cls X.K C0) (n : NoAttr X.K C0 f)
    {g : Shared → Hp → Addr → List (Str × Addr) → List Addr → TG} {te : Shared → Hp → Addr → List (Str × Addr) → List Addr → TE}
    (hg : Gl X "all") (hm : X.mg "all" = none) (hv : bootBuiltins "all" = some (.builtin "all")) (hg2 : Gl X "zip") (hm2 : X.mg "zip" = none)
    (ho : PE X o (tVar i)) (hb : PuD X e2 tb φb)
    (ok : BlkOk X.N X.env.scope scope own)
    (ht : ∀ (s : Shared) (H : Hp) (C : Addr) (cl : List (Str × Addr)) (fp : List Addr), TgD (X.blk s H scope (compEnvC scope cl C X.env) fp) (.Tuple elts kk tpos) (g s H C cl fp) θ) (hw : ∀ s H C cl fp, TgW (g s H C cl fp) (own.map (·.2)))
    (he : ∀ (s : Shared) (H : Hp) (C : Addr) (cl : List (Str × Addr)) (fp : List Addr), PuD (X.blk s H scope (compEnvC scope cl C X.env) fp) elt (te s H C cl fp) φ)
    (hb1 : attributeBase o f X.env (eval o X.env) = eval o X.env := by rfl)
    (hbase : attributeBase (.Attribute o f fpos) "values" X.env (eval (.Attribute o f fpos) X.env) = eval (.Attribute o f fpos) X.env := by rfl) (hline : (apos.endLine == cpos.line) = true := by rfl)
    (hs2 : starEach [e2] X.env = (false, eval e2 X.env) :: starEach [] X.env := by rfl)
    (hs : starEach [.Call (.Attribute (.Attribute o f fpos) "values" apos) [] [] cpos, e2] X.env = (false, eval (.Call (.Attribute (.Attribute o f fpos) "values" apos) [] [] cpos) X.env) :: starEach [e2] X.env := by rfl) (hpl : (backTo zpos (starEach [e2] X.env)).any (·.1) = false := by rfl)
    (hsI : ∀ x, foldedSetIterable (.Call (.Name "zip" p2) [.Call (.Attribute (.Attribute o f fpos) "values" apos) [] [] cpos, e2] [] zpos) X.env x = pure x := by intro _; rfl)
    (hsL : starEach [.ListComp elt [⟨.Tuple elts kk tpos, .Call (.Name "zip" p2) [.Call (.Attribute (.Attribute o f fpos) "values" apos) [] [] cpos, e2] [] zpos, [], 0⟩] scope lpos] X.env = (false, eval (.ListComp elt [⟨.Tuple elts kk tpos, .Call (.Name "zip" p2) [.Call (.Attribute (.Attribute o f fpos) "values" apos) [] [] cpos, e2] [] zpos, [], 0⟩] scope lpos) X.env) :: starEach [] X.env := by rfl) :
    PuD X (.Call (.Name "all" p) [.ListComp elt [⟨.Tuple elts kk tpos, .Call (.Name "zip" p2) [.Call (.Attribute (.Attribute o f fpos) "values" apos) [] [] cpos, e2] [] zpos, [], 0⟩] scope lpos] [] pos)
      (tLockE (tCB (rAll X.K) (tCons (tLc (Zg.iZipV X.K (tFld X.K (tVar i) f) tb) (cTg (own.map (·.2)) θ) (cTe yesF) (cPu φ) (own.map (·.2))) tNil))) (allZipF i C0 f φb (own.map (·.2)) θ φ) :=
  ⟨pe_lock (pe_callB (cr_all hc) hg hm hv (pa_cons (pe_lc hc hN (Zg.pi_zipV hg2 hm2 (pe_fld ho hb1) hb.pe hbase hline hs2 hs hpl) ok (fun s H C cl fp => (ht s H C cl fp).c (hw s H C cl fp))
      (fun s H C cl fp => ⟨fun pins s' σ H' Q I ⟨ρ, b, G, h1, h2, h3⟩ => pts_nil.run pins s' σ H' Q I (ts_nil ρ b h1 G H' σ h2 Q h3)⟩) (fun s H C cl fp => (he s H C cl fp).c) hsI) pa_nil hsL)), fun ρ z ee G H σ x Q k => by
    unfold allZipF at ee
    split at ee
    · rename_i ob h1
      obtain ⟨d, e1, ee⟩ := Option.bind_eq_some_iff.mp ee
      split at ee
      · rename_i ks xs
        split at ee
        · rename_i hp
          obtain ⟨y, e2, ee⟩ := Option.bind_eq_some_iff.mp ee
          split at ee
          · rename_i b ys
            split at ee
            · rename_i hlen
              obtain ⟨zs, e3, ee⟩ := Option.bind_eq_some_iff.mp ee
              obtain ⟨bs, e4, rfl⟩ := Option.map_eq_some_iff.mp ee
              obtain ⟨v, h2, h3⟩ := x.pu i ob h1
              unfold fldD at e1
              split at e1
              · rename_i C ns fs
                split at e1
                · rename_i hC
                  subst hC
                  obtain ⟨a, dx, us, rfl, ha, hl0, hr⟩ := h3.un_obj
                  obtain ⟨u, hu, ru⟩ := getS_rep hr e1
                  obtain ⟨dd, ws, rfl, hd, l1, l2, qs⟩ := ru.un_dct
                  have hHd := x.gh _ _ hd
                  have had : a ≠ dd := fun z => by rw [z, hd] at ha; cases ha
                  refine ⟨dd, .dK (ks.zip ws), hHd, trivial, fun od => ?_⟩
                  have exS : ExS G (upd G dd (.frz od (.dK (ks.zip ws)))) := fun c b0 us0 hh => by
                    have : c ≠ dd := fun z => by rw [z, hd] at hh; exact mkS_ne (Option.some.inj hh).symm
                    rw [upd_ne this]; exact hh
                  have exG : Ex (upd G dd (.frz od (.dK (ks.zip ws)))) (upd H dd (.frz od (.dK (ks.zip ws)))) := fun c o hh => by
                    by_cases q : c = dd
                    · rw [q, upd_same] at hh ⊢; exact hh
                    · rw [upd_ne q] at hh ⊢; exact x.gh _ _ hh
                  have x' := x.cut exS exG
                  have qs' : Reps (upd G dd (.frz od (.dK (ks.zip ws)))) xs ws := Reps.plain exS hp qs
                  have aH : upd H dd (.frz od (.dK (ks.zip ws))) a = some (.ins C dx (ns.zip us)) := by rw [upd_ne had]; exact x.gh _ _ ha
                  have hz : (ks.zip ws).map (·.2) = ws := by rw [List.map_snd_zip]; rw [qs.len]; omega
                  have fin : ItAt (Zg.iZipV X.K (tFld X.K (tVar i) f) tb) (zipL xs ys) (upd G dd (.frz od (.dK (ks.zip ws)))) (upd H dd (.frz od (.dK (ks.zip ws)))) σ := fun R kR => by
                    refine ⟨.ref a, h2, a, C, dx, _, .ref dd, rfl, aH, cl, n, hu, dd, od, ks.zip ws, rfl, upd_same, ?_⟩
                    refine hb.ev _ _ e2 _ _ σ x' _ fun v2 G2 H2 f2 r2 => ?_
                    obtain ⟨b2, us2, rfl, hb2, l3, q2⟩ := r2.un_sq
                    have gd : G2 dd = some (.frz od (.dK (ks.zip ws))) := f2.g _ _ upd_same
                    refine ⟨b2, us2, rfl, f2.gh _ _ gd, ?_⟩
                    have qs2 := qs'.mono f2.g
                    have hmin : (zipL xs ys).length = min ws.length us2.length := by rw [zip_len, qs2.len, q2.len]
                    cases b with
                    | true => exact .inl ⟨SqL.of (f2.gh _ _ hb2), kR _ G2 H2 (fun H => (∃ kvs, H dd = some (.frz od (.dK kvs)) ∧ ws = kvs.map (·.2)) ∧ SqL X.K H b2 us2) _ f2 (walk_v2 hmin)
                        (fun H' g => ⟨⟨_, g _ _ gd, hz.symm⟩, SqL.of (g _ _ hb2)⟩) (ypair_ok fun i x y _ z1 z2 => zip_get qs2 q2 i x y z1 z2)⟩
                    | false => exact .inr ⟨SqT.of (f2.gh _ _ hb2), kR _ G2 H2 (fun H => (∃ kvs, H dd = some (.frz od (.dK kvs)) ∧ ws = kvs.map (·.2)) ∧ SqT X.K H b2 us2) _ f2 (walk_v2 hmin)
                        (fun H' g => ⟨⟨_, g _ _ gd, hz.symm⟩, SqT.of (g _ _ hb2)⟩) (ypair_ok fun i x y _ z1 z2 => zip_get qs2 q2 i x y z1 z2)⟩
                  refine lc_at (own.map (·.2)) fin x' hlen e3 (fun v H1 => rAll X.K [v] H1 fun v H' => H' dd = some (.frz od (.dK (ks.zip ws))) ∧ Q v (upd H' dd (.dK (ks.zip ws)))) fun pp us3 G2 H2 f2 n1 n2 h4 l4 q4 => ?_
                  show rAll X.K [.ref pp] H2 _
                  obtain rfl := bools_un e4
                  obtain ⟨rfl, _⟩ := reps_leafy q4
                  have gd : G2 dd = some (.frz od (.dK (ks.zip ws))) := f2.g _ _ upd_same
                  refine ⟨pp, bs, rfl, SqL.of h4, f2.gh _ _ gd, ?_⟩
                  refine k _ (upd G2 dd (.dK (ks.zip ws))) _ ⟨fun c o hh => ?_, fun c o hh => ?_, fun c o hh => ?_, fun c c1 c2 => ?_⟩ (.lf rfl)
                  · by_cases q : c = dd
                    · rw [q, upd_same]; rw [q, hd] at hh; exact hh
                    · rw [upd_ne q]; exact f2.g _ _ (by rw [upd_ne q]; exact hh)
                  · by_cases q : c = dd
                    · rw [q, upd_same] at hh ⊢; exact hh
                    · rw [upd_ne q] at hh ⊢; exact f2.gh _ _ hh
                  · by_cases q : c = dd
                    · rw [q, upd_same]; rw [q, hHd] at hh; exact hh
                    · rw [upd_ne q]; exact f2.h _ _ (by rw [upd_ne q]; exact hh)
                  · have q : c ≠ dd := fun z => by rw [z, hd] at c2; cases c2
                    rw [upd_ne q]
                    exact f2.nw _ (by rw [upd_ne q]; exact c1) (by rw [upd_ne q]; exact c2)
                · cases e1
              · cases e1
            · cases ee
          · cases ee
        · cases ee
      · cases ee
    · cases ee⟩
end
end L2.Tr

namespace L2.Tr
open PySem PySem.Spec PyProof.Rows
/-! isinstance(x, C), C an own class -/
structure OwnC (K : PySem.W.Frag) (C : Addr) : Prop where
  ty : ∀ {H : Hp} {a dx : Addr} {fs : List (Str × V)}, H a = some (.ins C dx fs) → TyOf K H (.ref a) (.ref C)
  no : ∀ s ∈ ["NoneType", "bool", "int", "str", "list", "tuple", "dict"], PySem.W.kitOne K (.type s) (.ref C) = some false
def isCls (C0 : Addr) : D → Option Bool
  | .obj C _ _ => if C = C0 then some true else none
  | .leaf (.byt _) => none
  | .leaf (.ty _) => none
  | d => (tyName d).bind fun s => if s ∈ ["NoneType", "bool", "int", "str", "list", "tuple", "dict"] then some false else none
section
variable {X : Cx} {K : PySem.W.Frag} {e : Expr} {t : TE} {φ : Env → Option D}
theorem isT_cls {C0 : Addr} (h : OwnC K C0) : IsT K (.ref C0) (isCls C0) := fun d b e H v r => by
  have gen : ∀ {d : D}, ((tyName d).bind fun s => if s ∈ ["NoneType", "bool", "int", "str", "list", "tuple", "dict"] then some false else none) = some b → Rep H d v → ∃ t, TyX K H v t ∧ PySem.W.kitOne K t (.ref C0) = some b := fun {d} e r => by
    obtain ⟨s, h1, h2⟩ := Option.bind_eq_some_iff.mp e
    split at h2
    · rename_i hs
      cases h2
      exact ⟨_, ty_of h1 r, h.no s hs⟩
    · cases h2
  cases d with
  | obj C ns ds =>
    unfold isCls at e
    simp only at e
    split at e
    · rename_i hC
      subst hC
      cases e
      obtain ⟨a, dx, us, rfl, h1, _, _⟩ := r.un_obj
      exact ⟨_, .base (h.ty h1), if_pos (beq_self_eq_true _)⟩
    · cases e
  | dct ks ds => exact gen (d := .dct ks ds) e r
  | seq b' ds => exact gen (d := .seq b' ds) e r
  | leaf x => cases x <;> first | (cases e; done) | exact gen (d := .leaf .non) e r | exact gen (d := .leaf (.bl _)) e r | exact gen (d := .leaf (.int _)) e r | exact gen (d := .leaf (.str _)) e r
theorem pu_isiC {x : Str} {p pos : Pos} {C : Addr} {eT : Expr} {q : D → Option Bool} (hT : IsT X.K (.ref C) q) (hg : Gl X x) (hm : X.mg x = none) (hv : bootBuiltins x = some (.builtin "isinstance")) (ha : ViD X e t φ) (hT2 : PE X eT (tC (.ref C))) (hn : x ≠ "__name__" := by decide) (hdb : (x == ("__debug__" : Str)) = false := by decide)
    (he1 : starEach [eT] X.env = (false, eval eT X.env) :: starEach [] X.env := by rfl) (he : starEach [e, eT] X.env = (false, eval e X.env) :: starEach [eT] X.env := by rfl) (hpl : (backTo pos (starEach [eT] X.env)).any (·.1) = false := by rfl) :
    PuD X (.Call (.Name x p) [e, eT] [] pos) (tCB (rIsi X.K) (tCons t (tCons (tC (.ref C)) tNil))) (isF q φ) := ⟨pe_callB call_isi hg hm hv (pa_cons ha.pe (pa_cons hT2 pa_nil he1) he) hn hdb he hpl, fun ρ d ee G H σ xx Q k => by
  obtain ⟨b, h1, rfl⟩ := Option.map_eq_some_iff.mp ee
  obtain ⟨d1, h2, h3⟩ := Option.bind_eq_some_iff.mp h1
  refine ha.ev ρ d1 h2 G H σ xx _ fun v G1 H1 f1 r1 => ?_
  obtain ⟨tt, h4, h5⟩ := hT d1 b h3 H1 v (r1.rep f1.gh)
  exact ⟨v, .ref C, tt, .ref C, b, rfl, .own C, h4, h5, k _ G1 H1 f1 (.lf rfl)⟩⟩
theorem con_in {C0 : Addr} {k : Nat} {f : List D → Option D} (h : Con X.prog X.w X.K X.mg X.base C0 k f) (hr : Room k X.A) : OpR X (compareOp .In) (L2.Vy.rInO C0 (spP f) false) := by
  obtain ⟨a, fd, ps, h1, h2, h3⟩ := h.ex
  exact L2.Vy.op_inO h2 hr h1 h3 pass0
theorem con_notIn {C0 : Addr} {k : Nat} {f : List D → Option D} (h : Con X.prog X.w X.K X.mg X.base C0 k f) (hr : Room k X.A) : OpR X (compareOp .NotIn) (L2.Vy.rInO C0 (spP f) true) := by
  obtain ⟨a, fd, ps, h1, h2, h3⟩ := h.ex
  exact L2.Vy.op_notInO h2 hr h1 h3 pass0
end
abbrev dinV (φa φb : Env → Option D) : Env → Option D := fun ρ => (bin2 (dinB false) φa φb ρ).map bD
abbrev neverF : Env → Option Out := fun _ => none
end L2.Tr

namespace L2.TRev
open PySem PySem.Spec PyProof.Rows L2 HT
open PySem.Sem (wp)
section
variable {prog : Program} {w : World} {A : Around} {E : Value → Shared → Prop} {s : Shared}
theorem places_rev (n : Nat) : Builtin.Slice.slicePlaces ((n : Int) - 1) (-1) (-1) = n := by
  unfold Builtin.Slice.slicePlaces
  have h1 : ¬ ((-1 : Int) > 0) := by omega
  have h2 : (- -1 : Int) = 1 := by decide
  simp only [h1, if_false, h2, Int.ediv_one]
  split <;> omega
theorem adjust_rev (n : Nat) : Builtin.Slice.sliceAdjust none none (-1) (n : Int) = ((n : Int) - 1, -1) := by
  unfold Builtin.Slice.sliceAdjust
  rfl
theorem applied_rev {sl : Addr} {vs : Value} {n : Nat} {Q : Int × Int × Nat → Shared → Prop} (hs : s.heap.IsSliceOf sl .none .none vs) (ps : IsPart vs (some (-1)))
    (h : Q ((n : Int) - 1, -1, n) s) : wpAny (model prog w) A (Builtin.Slice.sliceApplied (.ref sl) (pure (n : Int))) Q E s := by
  obtain ⟨os, hos, hcs, hds⟩ := id hs
  unfold Builtin.Slice.sliceApplied Builtin.Slice.sliceFields
  refine wpAny_bind (wpAny_bind (wpAny_field hos hds (x := .none) rfl (wpAny_bind (wpAny_field hos hds (x := .none) rfl (wpAny_bind (wpAny_field hos hds (x := vs) rfl (wpAny_pure ?_)))))))
  refine wpAny_bind (slicePart_ ps ?_)
  show wpAny _ _ (if ((-1 : Int) == 0) = true then _ else _) _ _ s
  rw [if_neg (by decide)]
  refine wpAny_bind (slicePart_none (wpAny_bind (slicePart_none (wpAny_bind (wpAny_pure ?_)))))
  show wpAny _ _ (match Builtin.Slice.sliceAdjust none none (-1) (n : Int) with | (lo, hi) => pure (lo, (-1 : Int), Builtin.Slice.slicePlaces lo hi (-1))) _ _ s
  rw [adjust_rev n]
  show wpAny _ _ (pure ((n : Int) - 1, (-1 : Int), Builtin.Slice.slicePlaces ((n : Int) - 1) (-1) (-1))) _ _ s
  rw [places_rev]
  exact wpAny_pure h
theorem pick_rev (xs : Array Value) : ((List.range xs.size).filterMap fun (m : Nat) => xs[(((xs.size : Int) - 1) + (m : Int) * (-1)).toNat]?).toArray = xs.toList.reverse.toArray := by
  have h : (List.range xs.size).filterMap (fun (m : Nat) => xs[(((xs.size : Int) - 1) + (m : Int) * (-1)).toNat]?) = ((List.range xs.size).map fun k => xs.size - 1 - k).filterMap (xs[·]?) := by
    rw [List.filterMap_map]
    have gen : ∀ (l : List Nat), (∀ m ∈ l, m < xs.size) → l.filterMap (fun (m : Nat) => xs[(((xs.size : Int) - 1) + (m : Int) * (-1)).toNat]?) = l.filterMap ((fun x => xs[x]?) ∘ fun k => xs.size - 1 - k) := fun l => by
      induction l with
      | nil => intro _; rfl
      | cons m l ih =>
        intro hl
        have hm := hl m List.mem_cons_self
        have e : (((xs.size : Int) - 1) + (m : Int) * (-1)).toNat = xs.size - 1 - m := by omega
        rw [List.filterMap_cons, List.filterMap_cons, ih fun z hz => hl z (List.mem_cons_of_mem _ hz), e]
        rfl
    exact gen _ fun m hm => List.mem_range.mp hm
  rw [h, PySem.W.krv_range, List.filterMap_reverse, PySem.W.krv_all]
theorem getItem_rev {t sl : Addr} {items : Array Value} {vs : Value} {Q : Value → Shared → Prop} (ht : IsTup s.heap t items) (hs : s.heap.IsSliceOf sl .none .none vs) (ps : IsPart vs (some (-1)))
    (h : Q (.ref s.heap.objs.size) { s with heap := s.heap.push { cls := .type "tuple", data := .seq items.toList.reverse.toArray } })
    (hsz : items.size ≤ sizeLine) : wpAny (model prog w) A (getItem (.ref t) (.ref sl)) Q E s := by
  have htake : sizeOk (.seq items.toList.reverse.toArray) := by
    show items.toList.reverse.toArray.size ≤ sizeLine
    rw [List.size_toArray, List.length_reverse, Array.length_toList]
    omega
  obtain ⟨os, hos, hcs, hds⟩ := id hs
  have hTs : s.TypeIs (.ref sl) "slice" := ⟨os, hos, hcs⟩
  unfold getItem
  try with_reducible refine wpAny_holding ?_
  first | refine wpAny_bind (wpAny_pure ?_) | skip
  refine wpAny_bind (wpAny_sequenceKey ht.typeIs (by decide) ?_)
  refine wpAny_bind (wpAny_callSpecial?_slot (name := Str.ofString "__getitem__") ht.typeIs PyProof.Rows.slot_tuple_getitem
    (wpAny_call_entry PyProof.Rows.slot_tuple_getitem ht.typeIs entry_tuple_getitem ?_ (args_tuple_getitem _ _)))
  show wpAny _ _ (Builtin.Tuple.tupleItemsOf (.ref t) >>= _) _ _ s
  refine wpAny_bind (tupleItemsOf_ ht ?_)
  refine wpAny_bind (wpAny_typeOf hTs ?_)
  rw [if_pos (by decide)]
  refine wpAny_bind (applied_rev hs ps ?_)
  have hno : ¬ ((((items.size : Int) - 1) == 0 && (-1 : Int) == 1 && items.size == items.size) = true) := by
    intro q
    rw [Bool.and_eq_true, Bool.and_eq_true] at q
    have := q.1.2
    exact absurd this (by decide)
  show wpAny _ _ (if (((items.size : Int) - 1) == 0 && (-1 : Int) == 1 && items.size == items.size) = true then _ else _) _ _ s
  rw [if_neg hno, pick_rev]
  first
    | exact wpAny_bind (m := Builtin.Tuple.tupleExact _) (wpAny_newObj_type (wpAny_pure ⟨_, rfl, wpAny_pure h⟩) htake)
    | exact wpAny_bind (m := Builtin.Tuple.tupleExact _) (wpAny_newObj_type (wpAny_bind (wpAny_pure (wpAny_pure ⟨_, rfl, wpAny_pure h⟩))) htake)
    | exact wpAny_bind (wpAny_bind (m := Builtin.Tuple.tupleExact _) (wpAny_newObj_type (wpAny_pure (wpAny_pure ⟨_, rfl, wpAny_pure h⟩)) htake))
    | exact wpAny_bind (wpAny_bind (m := Builtin.Tuple.tupleExact _) (wpAny_newObj_type (wpAny_pure ⟨_, rfl, wpAny_pure h⟩) htake))
end
def tRevT (K : PySem.W.Frag) (te : TE) : TE := fun σ H Q => te σ H fun x H1 => ∃ a xs, x = .ref a ∧ SqT K H1 a xs ∧ ∀ p, H1 p = none → Q (.ref p) (upd H1 p (.tup xs.reverse))
theorem pe_revT {X : Cx} {e : Expr} {te : TE} {k : Nat} {p1 p2 p3 pos : Pos} (he : PE X e te) : PE X (.Subscript e (.Slice none none (some (.UnaryOp .USub (.Constant (.int 1) k p1) p2)) p3) pos) (tRevT X.K te) := by
  refine ⟨fun pins s σ H Q I h => ?_⟩
  refine Subscript_ (thn (he.run pins s σ H _ I h) fun v s1 ⟨x, H1, I1, r1, q1⟩ => ?_)
  obtain ⟨a, xs, ex, hx, q⟩ := q1
  subst ex
  cases r1
  have hst : PO X (some (.UnaryOp .USub (.Constant (.int 1) k p1) p2)) (tPart (tUn (rU fun i => .int (-i)) (tC (.int 1)))) := po_some (pe_un un_neg pe_int)
  refine wpAny_Slice (thn (po_none.run pins s1 σ H1 (fun o H2 => o = none ∧ H2 = H1) I1 ⟨rfl, rfl⟩) fun vl s2 ⟨l, H2, I2, pl, el, e2⟩ => ?_)
  subst el e2
  refine thn (po_none.run pins s2 σ H2 (fun o H3 => o = none ∧ H3 = H2) I2 ⟨rfl, rfl⟩) fun vu s3 ⟨u, H3, I3, pu, eu, e3⟩ => ?_
  subst eu e3
  refine thn (hst.run pins s3 σ H3 (fun o H4 => o = some (-1) ∧ H4 = H3) I3 ⟨1, rfl, -1, rfl, rfl, rfl⟩) fun vs s4 ⟨o, H4, I4, ps, eo, e4⟩ => ?_
  subst eo e4
  cases pl
  cases pu
  have I5 : Inv X pins σ H4 { s4 with heap := s4.heap.push { cls := .type "slice", data := .fields #[.none, .none, vs] } } := I4.kept (t' := s4.toks) fun b ob q => Heap.get?_push_of_some _ q
  obtain ⟨its, r, ht, hz⟩ := I5.tuple hx
  have hlen := r.length
  show wpAny (model X.prog X.w) X.A (subscriptTail e (.Slice none none (some (.UnaryOp .USub (.Constant (.int 1) k p1) p2)) p3) (.ref a) (.ref s4.heap.objs.size)) (EP X pins σ Q) X.xe { s4 with heap := s4.heap.push { cls := .type "slice", data := .fields #[.none, .none, vs] } }
  refine tail_any (ops := [.ref a, .ref s4.heap.objs.size]) ht.typeIs (PyProof.Rows.slot_tuple_getitem.lookup) ?_ (by with_unfolding_all rfl)
  refine getItem_rev ht (Heap.IsSliceOf.new _ .none .none vs) ps ?_ (by rw [List.size_toArray]; omega)
  refine ⟨.ref _, _, I5.laid (t' := s4.toks) (o := .tup xs.reverse) (fun b ob q => Heap.get?_push_of_some _ q) (Nat.le_refl _) ?_, rfl, q _ (I5.hok.fresh (Nat.le_refl _))⟩
  exact ⟨by rw [List.length_reverse]; exact hz, _, r.reverse, ⟨_, Heap.get?_push_size _ rfl, rfl, _, rfl⟩⟩
end L2.TRev
namespace L2.Tr
open PySem PySem.Spec PyProof.Rows
section
variable {X : Cx} {a : Expr} {ta : TE} {φa : Env → Option D} {pos : Pos}
def revT (φ : Env → Option D) : Env → Option D := fun ρ => (φ ρ).bind fun d => match d with
  | .seq false ds => some (.seq false ds.reverse)
  | _ => none
theorem pu_revT {k : Nat} {p1 p2 p3 : Pos} (h : ViD X a ta φa) : PuD X (.Subscript a (.Slice none none (some (.UnaryOp .USub (.Constant (.int 1) k p1) p2)) p3) pos) (TRev.tRevT X.K ta) (revT φa) := ⟨TRev.pe_revT h.pe, fun ρ z ee G H σ x Q kk => by
  obtain ⟨d, e1, e2⟩ := Option.bind_eq_some_iff.mp ee
  refine h.ev ρ d e1 G H σ x _ fun v G1 H1 f1 r1 => ?_
  split at e2
  · cases e2
    obtain ⟨p, us, rfl, h1, l1, q1⟩ := r1.tup.un_sq
    exact ⟨p, us, rfl, SqT.of (f1.gh _ _ h1), fun q nq => kk _ _ _ (f1.trans (.new f1.gh nq)) (.sq (b := false) upd_same (by rw [List.length_reverse]; exact l1) (q1.rev.mono (Ex.new (f1.gh.back nq))))⟩
  · cases e2⟩
end
end L2.Tr

namespace L2.K1
open PySem PySem.Spec PyProof.Rows L2.Tr
def top (i : Nat) : Stmt := PySem.Challenge.pw_toldthere_k01_columns_told.main.body.getD i (.Pass ⟨0, 0, 0, 0⟩)
section
variable {P : Program} {w : World} {K : PySem.W.Frag} {mg : Str → Option Value} {base : Heap}
abbrev sIsW : Stmt := top 7
abbrev nIsW : List Str := ["thing", "letter"]
theorem scIsW : FnScope nIsW ["thing"] (defScope sIsW) := ⟨rfl, rfl, rfl, by decide +kernel, rfl, by decide +kernel, by decide +kernel⟩
def FIsW : L2.Tr.Env → Option Out := (seqF (ifS (orB (notB (truF (isF isStr (atP 0)))) (notB (asBF (chainF (intI fun i j => .bl (decide (i ≤ j))) (intI fun i j => .bl (decide (i ≤ j))) (kD (.leaf (.int 1))) (app1 lenA (consD (atP 0) nilD)) (kD (.leaf (.int 8))))))) (retF (kD (.leaf (.bl false)))) skipF) (retF (app1 allD (consD (mapS (lcF [1] (strsF (atP 0)) (setF 1) yesF (bin2 inSD (atP 1) (kD (.leaf (.str "abcdefghijklmnopqrstuvwxyz")))))) nilD))))
def fIsW (ds : List D) : Option D := if ds.length = (["thing"] : List Str).length then runF nIsW.length (FIsW ) ds else none
theorem okIsW {f : Addr} {fd : FuncData} (F : Fun K "is_word" "is_word" sIsW f fd) (B : TxB mg) {tkL0 : Tok} (G_LETTERS : mg "LETTERS" = some (.str "abcdefghijklmnopqrstuvwxyz" tkL0)) {tk80 : Tok} (G_MOST_LETTERS : mg "MOST_LETTERS" = some (.int 8 tk80)) : FnOk P w K mg base CX0 1 f fd ["thing"] (spP (fIsW )) :=
  ok_def (N := nIsW) (Φ := FIsW ) F scIsW fun cdv A outer s H E hr => ⟨_, (ss_cons (sd_if (TwD.te (tw_or (te_not (te_tru (PuD.vi (pu_isi isT_str (by rfl) B.z_isinstance (by decide +kernel) (PuD.vi (pu_var (pv 0))) (pe_bltn (v := .ty "str") (by rfl) B.z_str (by decide +kernel) rfl))) (fun _ => rfl))) (tw_or1 (te_not (te_chain op_le op_le (r2_I0 fun _ _ => rfl) (r2_I0 fun _ _ => rfl) (PuD.vi (pu_c pe_int rfl)) (PuD.vi (pu_cb (CallR.or call_len call_lenD) (R1D.or r1_len r1_lenK) (by rfl) B.z_len (by decide +kernel) (av_cons (PuD.vi (pu_var (pv 0))) av_nil))) (PuD.vi (pu_c (pe_glob (v := .int 8) (by rfl) G_MOST_LETTERS ⟨_, rfl⟩) (by decide +kernel)))))))) (ss_one (sd_ret (pu_c pe_bl rfl))) ss_nil) (ss_one (sd_ret (pu_cb (cr_all rfl) r1_all (by rfl) B.z_all (by decide +kernel) (av_cons (PuD.vi (OwD.pu (LcD.ow (lc0 [("letter", 1)] (it_str (pu_var (pv 0))) (blkOk_by (N := nIsW) (sc := defScope sIsW) (by decide +kernel)) (fun _ _ _ _ _ => (tg_name (pg_name (i := 1) scIsW.nd rfl (Or.inl rfl)))) (fun _ _ _ _ _ => (tw_name (by decide))) (fun _ _ _ _ _ => (pu_cmp op_inS r2_inS (by with_unfolding_all rfl) (PuD.vi (pu_var (pv 1))) (PuD.vi (pu_c (pe_glob (v := .str "abcdefghijklmnopqrstuvwxyz") (by rfl) G_LETTERS ⟨_, rfl⟩) (by decide +kernel)))))) rfl scIsW.nd))) av_nil)))))⟩
abbrev sIsL : Stmt := top 8
abbrev nIsL : List Str := ["thing"]
theorem scIsL : FnScope nIsL ["thing"] (defScope sIsL) := ⟨rfl, rfl, rfl, by decide +kernel, rfl, by decide +kernel, by decide +kernel⟩
def FIsL : L2.Tr.Env → Option Out := (retF (isF isSeq (atP 0)))
def fIsL (ds : List D) : Option D := if ds.length = (["thing"] : List Str).length then runF nIsL.length (FIsL ) ds else none
theorem okIsL {f : Addr} {fd : FuncData} (F : Fun K "is_list" "is_list" sIsL f fd) (B : TxB mg) : FnOk P w K mg base CX0 1 f fd ["thing"] (spP (fIsL )) :=
  ok_def (N := nIsL) (Φ := FIsL ) F scIsL fun cdv A outer s H E hr => ⟨_, (ss_one (sd_ret (pu_isiT isTs_seq (by rfl) B.z_isinstance (by decide +kernel) (PuD.vi (pu_var (pv 0))) (TyArgs.cons (pe_bltn (v := .ty "list") (by rfl) B.z_list (by decide +kernel) rfl) (TyArgs.cons (pe_bltn (v := .ty "tuple") (by rfl) B.z_tuple (by decide +kernel) rfl) TyArgs.nil (by rfl)) (by rfl)) (by decide))))⟩
abbrev sIsN : Stmt := top 13
abbrev nIsN : List Str := ["thing"]
theorem scIsN : FnScope nIsN ["thing"] (defScope sIsN) := ⟨rfl, rfl, rfl, by decide +kernel, rfl, by decide +kernel, by decide +kernel⟩
def FIsN : L2.Tr.Env → Option Out := (retF (andF (app1 fIsW (consD (atP 0) nilD)) (bin2 (scD true) (atP 0) (kD (.leaf (.str "number"))))))
def fIsN (ds : List D) : Option D := if ds.length = (["thing"] : List Str).length then runF nIsN.length (FIsN ) ds else none
theorem okIsN {f : Addr} {fd : FuncData} (F : Fun K "_is_name" "_is_name" sIsN f fd) (B : TxB mg) (hW : Fn P w K mg base "is_word" 1 1 fIsW) : FnOk P w K mg base CX0 2 f fd ["thing"] (spP (fIsN )) :=
  ok_def (N := nIsN) (Φ := FIsN ) F scIsN fun cdv A outer s H E hr => ⟨_, (ss_one (sd_ret (pu_andT (pu_call hW (hr.mono (by first | decide | omega)) (by rfl) (ar_cons (pu_var (pv 0)) ar_nil)) (pu_one (pu_cmp op_ne r2_neS (nomark _) (PuD.vi (pu_var (pv 0))) (PuD.vi (pu_c pe_str (by decide +kernel))))))))⟩
abbrev sAre : Stmt := top 14
abbrev nAre : List Str := ["thing", "value"]
theorem scAre : FnScope nAre ["thing"] (defScope sAre) := ⟨rfl, rfl, rfl, by decide +kernel, rfl, by decide +kernel, by decide +kernel⟩
def FAre : L2.Tr.Env → Option Out := (seqF (ifS (orB (notB (truF (app1 fIsL (consD (atP 0) nilD)))) (notB (asBF (chainF (intI fun i j => .bl (decide (i ≤ j))) (intI fun i j => .bl (decide (i ≤ j))) (kD (.leaf (.int 1))) (app1 lenA (consD (atP 0) nilD)) (kD (.leaf (.int 3))))))) (retF (kD (.leaf (.bl false)))) skipF) (retF (andF (app1 allD (consD (mapS (lcF [1] (seqsF (atP 0)) (setF 1) yesF (app1 fIsW (consD (atP 1) nilD)))) nilD)) (bin2 (scD false) (lenSF (atP 0)) (app1 lenA (consD (atP 0) nilD))))))
def fAre (ds : List D) : Option D := if ds.length = (["thing"] : List Str).length then runF nAre.length (FAre ) ds else none
theorem okAre {f : Addr} {fd : FuncData} (F : Fun K "_are_values" "_are_values" sAre f fd) (B : TxB mg) {tkV0 : Tok} (G_MOST_VALUES : mg "MOST_VALUES" = some (.int 3 tkV0)) (hW : Fn P w K mg base "is_word" 1 1 fIsW) (hL : Fn P w K mg base "is_list" 1 1 fIsL) : FnOk P w K mg base CX0 2 f fd ["thing"] (spP (fAre )) :=
  ok_def (N := nAre) (Φ := FAre ) F scAre fun cdv A outer s H E hr => ⟨_, (ss_cons (sd_if (TwD.te (tw_or (te_not (te_tru (PuD.vi (pu_call hL (hr.mono (by first | decide | omega)) (by rfl) (ar_cons (pu_var (pv 0)) ar_nil))) (fun _ => rfl))) (tw_or1 (te_not (te_chain op_le op_le (r2_I0 fun _ _ => rfl) (r2_I0 fun _ _ => rfl) (PuD.vi (pu_c pe_int rfl)) (PuD.vi (pu_cb (CallR.or call_len call_lenD) (R1D.or r1_len r1_lenK) (by rfl) B.z_len (by decide +kernel) (av_cons (PuD.vi (pu_var (pv 0))) av_nil))) (PuD.vi (pu_c (pe_glob (v := .int 3) (by rfl) G_MOST_VALUES ⟨_, rfl⟩) (by decide +kernel)))))))) (ss_one (sd_ret (pu_c pe_bl rfl))) ss_nil) (ss_one (sd_ret (pu_andT (pu_cb (cr_all rfl) r1_all (by rfl) B.z_all (by decide +kernel) (av_cons (PuD.vi (OwD.pu (LcD.ow (lc0 [("value", 1)] (it_seq (pu_var (pv 0))) (blkOk_by (N := nAre) (sc := defScope sAre) (by decide +kernel)) (fun _ _ _ _ _ => (tg_name (pg_name (i := 1) scAre.nd rfl (Or.inl rfl)))) (fun _ _ _ _ _ => (tw_name (by decide))) (fun _ _ _ _ _ => (pu_call hW (hr.mono (by first | decide | omega)) (by rfl) (ar_cons (pu_var (pv 1)) ar_nil)))) rfl scAre.nd))) av_nil)) (pu_one (pu_cmp op_eq r2_eqS (nomark _) (PuD.vi (pu_lenS rfl (by rfl) B.z_len (by rfl) B.z_set (PuD.vi (pu_var (pv 0))))) (PuD.vi (pu_cb (CallR.or call_len call_lenD) (R1D.or r1_len r1_lenK) (by rfl) B.z_len (by decide +kernel) (av_cons (PuD.vi (pu_var (pv 0))) av_nil)))))))))⟩
abbrev sTold : Stmt := top 15
abbrev nTold : List Str := ["thing"]
theorem scTold : FnScope nTold ["thing"] (defScope sTold) := ⟨rfl, rfl, rfl, by decide +kernel, rfl, by decide +kernel, by decide +kernel⟩
def FTold : L2.Tr.Env → Option Out := (retF (andF (app1 fIsL (consD (atP 0) nilD)) (andF (bin2 (scD false) (app1 lenA (consD (atP 0) nilD)) (kD (.leaf (.int 2)))) (andF (app1 fIsN (consD (bin2 ixD (atP 0) (kD (.leaf (.int 0)))) nilD)) (app1 fAre (consD (bin2 ixD (atP 0) (kD (.leaf (.int 1)))) nilD))))))
def fTold (ds : List D) : Option D := if ds.length = (["thing"] : List Str).length then runF nTold.length (FTold ) ds else none
theorem okTold {f : Addr} {fd : FuncData} (F : Fun K "_is_told" "_is_told" sTold f fd) (B : TxB mg) (hL : Fn P w K mg base "is_list" 1 1 fIsL) (hN : Fn P w K mg base "_is_name" 2 1 fIsN) (hA : Fn P w K mg base "_are_values" 2 1 fAre) : FnOk P w K mg base CX0 3 f fd ["thing"] (spP (fTold )) :=
  ok_def (N := nTold) (Φ := FTold ) F scTold fun cdv A outer s H E hr => ⟨_, (ss_one (sd_ret (pu_andT (pu_call hL (hr.mono (by first | decide | omega)) (by rfl) (ar_cons (pu_var (pv 0)) ar_nil)) (pu_andT (pu_cmp op_eq r2_eqS (nomark _) (PuD.vi (pu_cb (CallR.or call_len call_lenD) (R1D.or r1_len r1_lenK) (by rfl) B.z_len (by decide +kernel) (av_cons (PuD.vi (pu_var (pv 0))) av_nil))) (PuD.vi (pu_c pe_int rfl))) (pu_andT (pu_call hN (hr.mono (by first | decide | omega)) (by rfl) (ar_cons (pu_ix (PuD.vi (pu_var (pv 0))) (PuD.vi (pu_c pe_int rfl)) (fun _ _ => rfl)) ar_nil)) (pu_one (pu_call hA (hr.mono (by first | decide | omega)) (by rfl) (ar_cons (pu_ix (PuD.vi (pu_var (pv 0))) (PuD.vi (pu_c pe_int rfl)) (fun _ _ => rfl)) ar_nil))))))))⟩
abbrev sCan : Stmt := top 16
abbrev nCan : List Str := ["thing", "values"]
theorem scCan : FnScope nCan ["thing", "values"] (defScope sCan) := ⟨rfl, rfl, rfl, by decide +kernel, rfl, by decide +kernel, by decide +kernel⟩
def FCan : L2.Tr.Env → Option Out := (retF (andF (app1 fIsW (consD (atP 0) nilD)) (orF (bin2 (isN false) (atP 1) (kD (.leaf .non))) (bin2 (inD false) (atP 0) (atP 1)))))
def fCan (ds : List D) : Option D := if ds.length = (["thing", "values"] : List Str).length then runF nCan.length (FCan ) ds else none
theorem okCan {f : Addr} {fd : FuncData} (F : Fun K "can_stand" "can_stand" sCan f fd) (B : TxB mg) (hW : Fn P w K mg base "is_word" 1 1 fIsW) : FnOk P w K mg base CX0 2 f fd ["thing", "values"] (spP (fCan )) :=
  ok_def (N := nCan) (Φ := FCan ) F scCan fun cdv A outer s H E hr => ⟨_, (ss_one (sd_ret (pu_andT (pu_call hW (hr.mono (by first | decide | omega)) (by rfl) (ar_cons (pu_var (pv 0)) ar_nil)) (pu_one (pu_orT (pu_cmp op_isN r2_isN (nomark _) (PuD.vi (pu_var (pv 1))) (PuD.vi (pu_c pe_non rfl))) (pu_one (pu_cmp op_in_seq r2_in (by with_unfolding_all rfl) (PuD.vi (pu_var (pv 0))) (PuD.vi (pu_var (pv 1))))))))))⟩
abbrev sInit : Stmt := inClass (top 17) 0
abbrev nInit : List Str := ["self", "told", "free", "values", "index", "thing", "place", "name"]
theorem scInit : FnScope nInit ["self", "told", "free"] (defScope sInit) := ⟨rfl, rfl, rfl, by decide +kernel, rfl, by decide +kernel, by decide +kernel⟩
def FInit (C : Addr) : L2.Tr.Env → Option Out := (seqF (dnewF 3) (seqF (forF (enumF (atP 1)) (tupT 2 (consT (setF 4) (consT (setF 5) nilT))) (seqF (ifS (orB (asBF (bin2 (scD false) (atP 4) (kD (.leaf (.int 3))))) (orB (notB (truF (app1 fTold (consD (atP 5) nilD)))) (bin2 (dinB false) (bin2 ixD (atP 5) (kD (.leaf (.int 0)))) (atV 3)))) neverF skipF) (dputF 3 (bin2 ixD (atP 5) (kD (.leaf (.int 0)))) (app1 tupD (consD (bin2 ixD (atP 5) (kD (.leaf (.int 1)))) nilD))))) (seqF (forF (enumF (atP 2)) (tupT 2 (consT (setF 6) (consT (setF 7) nilT))) (seqF (asgF (bin2 addD (app1 lenA (consD (atP 1) nilD)) (atP 6)) (setF 4)) (seqF (ifS (orB (asBF (bin2 (scD false) (atP 4) (kD (.leaf (.int 3))))) (orB (asBF (bin2 (scD false) (atP 6) (kD (.leaf (.int 2))))) (orB (notB (truF (app1 fIsN (consD (atP 7) nilD)))) (bin2 (dinB false) (atP 7) (atV 3))))) neverF skipF) (dputF 3 (atP 7) (kD (.leaf .non)))))) (seqF (ifS (notB (truF (atV 3))) neverF skipF) (frzF 3 (sfldF 0 C "_values" (atP 3)))))))
def fInit (C : Addr) (ds : List D) : Option (List Str × List D) := if ds.length + 1 = (["self", "told", "free"] : List Str).length then initF nInit.length C (FInit C ) ds else none
theorem okInit {f : Addr} {fd : FuncData} {dvs : List V} {kws : List (Str × V)} (C : Addr) (F : FunD K "__init__" "Columns.__init__" (defArgs sInit) (defBody sInit) (defScope sInit) dvs kws f fd) (B : TxB mg) (cl : Cls K C) (na : NoAttr K C "_values") {tkC0 : Tok} (G_MOST_COLUMNS : mg "MOST_COLUMNS" = some (.int 3 tkC0)) {tkF0 : Tok} (G_MOST_FREE : mg "MOST_FREE" = some (.int 2 tkF0)) (hT : Fn P w K mg base "_is_told" 3 1 fTold) (hN : Fn P w K mg base "_is_name" 2 1 fIsN) : FnOk P w K mg base CX0 4 f fd ["self", "told", "free"] (spI C (fInit C )) :=
  ok_init (n0 := "self") (N := ["told", "free", "values", "index", "thing", "place", "name"]) (C := C) (Φ := FInit C ) F scInit fun cdv A outer s H E hr => ⟨_, (ss_cons (sd_dnew (i := 3) (fun h => ps_set (i := 3) scInit.nd rfl (by first | exact Or.inl rfl | exact Or.inr rfl) h)) (ss_cons (sd_for PassesOwn.never rfl (it_enum (pu_var (pv 1)) (by rfl) B.z_enumerate) (tg_tup rfl (tgs_cons (tg_name (pg_name (i := 4) scInit.nd rfl (by first | exact Or.inl rfl | exact Or.inr rfl))) (tgs_cons (tg_name (pg_name (i := 5) scInit.nd rfl (by first | exact Or.inl rfl | exact Or.inr rfl))) tgs_nil))) (ss_cons (sd_if (TwD.te (tw_or (te_cmp op_eq r2_eqS (nomark _) (PuD.vi (pu_var (pv 4))) (PuD.vi (pu_c (pe_glob (v := .int 3) (by rfl) G_MOST_COLUMNS ⟨_, rfl⟩) (by decide +kernel)))) (tw_or (te_not (te_tru (PuD.vi (pu_call hT (hr.mono (by first | decide | omega)) (by rfl) (ar_cons (pu_var (pv 5)) ar_nil))) (fun _ => rfl))) (tw_or1 (te_din (hu_of hr) (PuD.vi (pu_ix (PuD.vi (pu_var (pv 5))) (PuD.vi (pu_c pe_int rfl)) (fun _ _ => rfl))) (vi_var (pv 3))))))) (ss_one sd_never) ss_nil) (ss_one (sd_dput (i := 3) (hu_of hr) (pv 3) (pu_ix (PuD.vi (pu_var (pv 5))) (PuD.vi (pu_c pe_int rfl)) (fun _ _ => rfl)) (pu_cty call_tuple_of r1_tup (by rfl) B.z_tuple (by decide +kernel) (av_cons (PuD.vi (pu_ix (PuD.vi (pu_var (pv 5))) (PuD.vi (pu_c pe_int rfl)) (fun _ _ => rfl))) av_nil)))))) (ss_cons (sd_for PassesOwn.never rfl (it_enum (pu_var (pv 2)) (by rfl) B.z_enumerate) (tg_tup rfl (tgs_cons (tg_name (pg_name (i := 6) scInit.nd rfl (by first | exact Or.inl rfl | exact Or.inr rfl))) (tgs_cons (tg_name (pg_name (i := 7) scInit.nd rfl (by first | exact Or.inl rfl | exact Or.inr rfl))) tgs_nil))) (ss_cons (sd_nm (pu_add (PuD.vi (pu_cb (CallR.or call_len call_lenD) (R1D.or r1_len r1_lenK) (by rfl) B.z_len (by decide +kernel) (av_cons (PuD.vi (pu_var (pv 1))) av_nil))) (PuD.vi (pu_var (pv 6)))) (fun h => ps_set (i := 4) scInit.nd rfl (by first | exact Or.inl rfl | exact Or.inr rfl) h)) (ss_cons (sd_if (TwD.te (tw_or (te_cmp op_eq r2_eqS (nomark _) (PuD.vi (pu_var (pv 4))) (PuD.vi (pu_c (pe_glob (v := .int 3) (by rfl) G_MOST_COLUMNS ⟨_, rfl⟩) (by decide +kernel)))) (tw_or (te_cmp op_eq r2_eqS (nomark _) (PuD.vi (pu_var (pv 6))) (PuD.vi (pu_c (pe_glob (v := .int 2) (by rfl) G_MOST_FREE ⟨_, rfl⟩) (by decide +kernel)))) (tw_or (te_not (te_tru (PuD.vi (pu_call hN (hr.mono (by first | decide | omega)) (by rfl) (ar_cons (pu_var (pv 7)) ar_nil))) (fun _ => rfl))) (tw_or1 (te_din (hu_of hr) (PuD.vi (pu_var (pv 7))) (vi_var (pv 3)))))))) (ss_one sd_never) ss_nil) (ss_one (sd_dput (i := 3) (hu_of hr) (pv 3) (pu_var (pv 7)) (pu_c pe_non rfl)))))) (ss_cons (sd_if (te_not (te_tru (vi_var (pv 3)) (fun _ => rfl))) (ss_one sd_never) ss_nil) (ss_one (sd_frz 3 (sd_fld (i := 0) cl na (pv 0) (pu_var (pv 3)))))))))⟩
abbrev sNames : Stmt := inClass (top 17) 1
abbrev nNames : List Str := ["self"]
theorem scNames : FnScope nNames ["self"] (defScope sNames) := ⟨rfl, rfl, rfl, by decide +kernel, rfl, by decide +kernel, by decide +kernel⟩
def FNames (C : Addr) : L2.Tr.Env → Option (List D) := (app1 lstA (consD (fldF C "_values" (atP 0)) nilD))
def fNames (C : Addr) (ds : List D) : Option (List D) := if ds.length = (["self"] : List Str).length then FNames C (env0 nNames.length ds) else none
theorem okNames {f : Addr} {fd : FuncData} (C : Addr) (F : Fun K "names" "Columns.names" sNames f fd) (B : TxB mg) (cl : Cls K C) (na : NoAttr K C "_values") : FnOk P w K mg base CX0 1 f fd ["self"] (spO (fNames C )) :=
  ok_retO (N := nNames) (ψ := FNames C ) F scNames rfl fun cdv A outer s H E hr => ⟨_, (ow_cty (CallR.or call_list_of (call_list_dK rfl)) (R1O.or r1_lst r1_lstK) (by rfl) B.z_list (by decide +kernel) (av_cons (PuD.vi (pu_fld cl na (PuD.vi (pu_var (pv 0))))) av_nil))⟩
abbrev sLen : Stmt := inClass (top 17) 4
abbrev nLen : List Str := ["self"]
theorem scLen : FnScope nLen ["self"] (defScope sLen) := ⟨rfl, rfl, rfl, by decide +kernel, rfl, by decide +kernel, by decide +kernel⟩
def FLen (C : Addr) : L2.Tr.Env → Option Out := (retF (app1 lenA (consD (fldF C "_values" (atP 0)) nilD)))
def fLen (C : Addr) (ds : List D) : Option D := if ds.length = (["self"] : List Str).length then runF nLen.length (FLen C ) ds else none
theorem okLen {f : Addr} {fd : FuncData} (C : Addr) (F : Fun K "__len__" "Columns.__len__" sLen f fd) (B : TxB mg) (cl : Cls K C) (na : NoAttr K C "_values") : FnOk P w K mg base CX0 1 f fd ["self"] (spP (fLen C )) :=
  ok_def (N := nLen) (Φ := FLen C ) F scLen fun cdv A outer s H E hr => ⟨_, (ss_one (sd_ret (pu_cb (CallR.or call_len call_lenD) (R1D.or r1_len r1_lenK) (by rfl) B.z_len (by decide +kernel) (av_cons (PuD.vi (pu_fld cl na (PuD.vi (pu_var (pv 0))))) av_nil))))⟩
abbrev sIn : Stmt := inClass (top 17) 5
abbrev nIn : List Str := ["self", "thing"]
theorem scIn : FnScope nIn ["self", "thing"] (defScope sIn) := ⟨rfl, rfl, rfl, by decide +kernel, rfl, by decide +kernel, by decide +kernel⟩
def FIn (C : Addr) : L2.Tr.Env → Option Out := (retF (andF (isF isStr (atP 1)) (dinV (atP 1) (fldF C "_values" (atP 0)))))
def fIn (C : Addr) (ds : List D) : Option D := if ds.length = (["self", "thing"] : List Str).length then runF nIn.length (FIn C ) ds else none
theorem okIn {f : Addr} {fd : FuncData} (C : Addr) (F : Fun K "__contains__" "Columns.__contains__" sIn f fd) (B : TxB mg) (cl : Cls K C) (na : NoAttr K C "_values") : FnOk P w K mg base CX0 1 f fd ["self", "thing"] (spP (fIn C )) :=
  ok_def (N := nIn) (Φ := FIn C ) F scIn fun cdv A outer s H E hr => ⟨_, (ss_one (sd_ret (pu_andT (pu_isi isT_str (by rfl) B.z_isinstance (by decide +kernel) (PuD.vi (pu_var (pv 1))) (pe_bltn (v := .ty "str") (by rfl) B.z_str (by decide +kernel) rfl)) (pu_one (pu_din (hu_of hr) (PuD.vi (pu_var (pv 1))) (PuD.vi (pu_fld cl na (PuD.vi (pu_var (pv 0))))))))))⟩
abbrev sTV : Stmt := inClass (top 17) 2
abbrev nTV : List Str := ["self", "name"]
theorem scTV : FnScope nTV ["self", "name"] (defScope sTV) := ⟨rfl, rfl, rfl, by decide +kernel, rfl, by decide +kernel, by decide +kernel⟩
def FTV (C : Addr) : L2.Tr.Env → Option Out := (seqF (ifS (asBF (bin2 (conD true C (fIn C)) (atP 1) (atP 0))) neverF skipF) (retF (bin2 dgD (fldF C "_values" (atP 0)) (atP 1))))
def fTV (C : Addr) (ds : List D) : Option D := if ds.length = (["self", "name"] : List Str).length then runF nTV.length (FTV C ) ds else none
theorem okTV {f : Addr} {fd : FuncData} (C : Addr) (F : Fun K "told_values" "Columns.told_values" sTV f fd) (B : TxB mg) (cl : Cls K C) (na : NoAttr K C "_values") (hI : L2.Tr.Con P w K mg base C 1 (fIn C)) : FnOk P w K mg base CX0 2 f fd ["self", "name"] (spP (fTV C )) :=
  ok_def (N := nTV) (Φ := FTV C ) F scTV fun cdv A outer s H E hr => ⟨_, (ss_cons (sd_if (te_cmp (con_notIn hI (hr.mono (by first | decide | omega))) r2_con (by with_unfolding_all rfl) (PuD.vi (pu_var (pv 1))) (PuD.vi (pu_var (pv 0)))) (ss_one sd_never) ss_nil) (ss_one (sd_ret (pu_dg (hu_of hr) (PuD.vi (pu_fld cl na (PuD.vi (pu_var (pv 0))))) (PuD.vi (pu_var (pv 1))) (fun _ _ => rfl)))))⟩
abbrev sIsRow : Stmt := inClass (top 17) 3
abbrev nIsRow : List Str := ["self", "thing", "values", "word"]
theorem scIsRow : FnScope nIsRow ["self", "thing"] (defScope sIsRow) := ⟨rfl, rfl, rfl, by decide +kernel, rfl, by decide +kernel, by decide +kernel⟩
def FIsRow (C : Addr) : L2.Tr.Env → Option Out := (seqF (ifS (orB (notB (truF (app1 fIsL (consD (atP 1) nilD)))) (asBF (bin2 (scD true) (app1 lenA (consD (atP 1) nilD)) (app1 lenA (consD (fldF C "_values" (atP 0)) nilD))))) (retF (kD (.leaf (.bl false)))) skipF) (retF (allZipF 0 C "_values" (atP 1) [2, 3] (tupT 2 (consT (setF 2) (consT (setF 3) nilT))) (app1 fCan (consD (atP 3) (consD (atP 2) nilD))))))
def fIsRow (C : Addr) (ds : List D) : Option D := if ds.length = (["self", "thing"] : List Str).length then runF nIsRow.length (FIsRow C ) ds else none
theorem okIsRow {f : Addr} {fd : FuncData} (C : Addr) (F : Fun K "is_row" "Columns.is_row" sIsRow f fd) (B : TxB mg) (cl : Cls K C) (na : NoAttr K C "_values") (hL : Fn P w K mg base "is_list" 1 1 fIsL) (hC : Fn P w K mg base "can_stand" 2 2 fCan) : FnOk P w K mg base CX0 3 f fd ["self", "thing"] (spP (fIsRow C )) :=
  ok_def (N := nIsRow) (Φ := FIsRow C ) F scIsRow fun cdv A outer s H E hr => ⟨_, (ss_cons (sd_if (TwD.te (tw_or (te_not (te_tru (PuD.vi (pu_call hL (hr.mono (by first | decide | omega)) (by rfl) (ar_cons (pu_var (pv 1)) ar_nil))) (fun _ => rfl))) (tw_or1 (te_cmp op_ne r2_neS (nomark _) (PuD.vi (pu_cb (CallR.or call_len call_lenD) (R1D.or r1_len r1_lenK) (by rfl) B.z_len (by decide +kernel) (av_cons (PuD.vi (pu_var (pv 1))) av_nil))) (PuD.vi (pu_cb (CallR.or call_len call_lenD) (R1D.or r1_len r1_lenK) (by rfl) B.z_len (by decide +kernel) (av_cons (PuD.vi (pu_fld cl na (PuD.vi (pu_var (pv 0))))) av_nil))))))) (ss_one (sd_ret (pu_c pe_bl rfl))) ss_nil) (ss_one (sd_ret (pu_allZip (i := 0) [("values", 2), ("word", 3)] rfl scIsRow.nd cl na (by rfl) B.z_all (by decide +kernel) (by rfl) B.z_zip (pv 0) (pu_var (pv 1)) (blkOk_by (N := nIsRow) (sc := defScope sIsRow) (by decide +kernel)) (fun _ _ _ _ _ => (tg_tup rfl (tgs_cons (tg_name (pg_name (i := 2) scIsRow.nd rfl (Or.inl rfl))) (tgs_cons (tg_name (pg_name (i := 3) scIsRow.nd rfl (Or.inl rfl))) tgs_nil)))) (fun _ _ _ _ _ => (tw_tup (tws_cons mono_nm (tw_name (by decide)) (tws_cons mono_nm (tw_name (by decide)) tws_nil)))) (fun _ _ _ _ _ => (pu_call hC (hr.mono (by first | decide | omega)) (by rfl) (ar_cons (pu_var (pv 3)) (ar_cons (pu_var (pv 2)) ar_nil))))))))⟩
abbrev sEq : Stmt := inClass (top 17) 6
abbrev nEq : List Str := ["self", "other"]
theorem scEq : FnScope nEq ["self", "other"] (defScope sEq) := ⟨rfl, rfl, rfl, by decide +kernel, rfl, by decide +kernel, by decide +kernel⟩
def FEq (C : Addr) : L2.Tr.Env → Option Out := (retF (andF (isF (isCls C) (atP 1)) (bin2 (eqP false) (mapS (itemsO (fldF C "_values" (atP 0)))) (mapS (itemsO (fldF C "_values" (atP 1)))))))
def fEq (C : Addr) (ds : List D) : Option D := if ds.length = (["self", "other"] : List Str).length then runF nEq.length (FEq C ) ds else none
theorem okEq {f : Addr} {fd : FuncData} (C : Addr) (F : Fun K "__eq__" "Columns.__eq__" sEq f fd) (B : TxB mg) (cl : Cls K C) (na : NoAttr K C "_values") (oc : OwnC K C) (G_Columns : mg "Columns" = some (.ref C)) : FnOk P w K mg base CX0 1 f fd ["self", "other"] (spP (fEq C )) :=
  ok_def (N := nEq) (Φ := FEq C ) F scEq fun cdv A outer s H E hr => ⟨_, (ss_one (sd_ret (pu_andT (pu_isiC (isT_cls oc) (by rfl) B.z_isinstance (by decide +kernel) (PuD.vi (pu_var (pv 1))) (pe_glob (by rfl) G_Columns rfl)) (pu_one (pu_cmp (op_eqD (hr.units)) r2_eqD (nomark _) (PuD.vi (OwD.pu (ow_items rfl (PuD.vi (pu_fld cl na (PuD.vi (pu_var (pv 0))))) (by rfl) B.z_list (by decide +kernel)))) (PuD.vi (OwD.pu (ow_items rfl (PuD.vi (pu_fld cl na (PuD.vi (pu_var (pv 1))))) (by rfl) B.z_list (by decide +kernel)))))))))⟩
end
end L2.K1

namespace L2.K1
open PySem PySem.Spec PyProof.Rows L2.Tr
section
variable {P : Program} {w : World} {K : PySem.W.Frag} {mg : Str → Option Value} {base : Heap}
abbrev sFree : Stmt := top 20
abbrev nFree : List Str := ["_law_w", "_law_name", "_law_values"]
theorem scFree : FnScope nFree ["_law_w"] (defScope sFree) := ⟨rfl, rfl, rfl, by decide +kernel, rfl, by decide +kernel, by decide +kernel⟩
def FFree : L2.Tr.Env → Option Out := (retF (mapS (lcF [1, 2] (zipF (bin2 dgD (atP 0) (kD (.leaf (.str "names")))) (bin2 dgD (atP 0) (kD (.leaf (.str "values"))))) (tupT 2 (consT (setF 1) (consT (setF 2) nilT))) (asBF (bin2 (isN false) (atP 2) (kD (.leaf .non)))) (atP 1))))
def fFree (ds : List D) : Option D := if ds.length = (["_law_w"] : List Str).length then runF nFree.length FFree ds else none
theorem okFree {f : Addr} {fd : FuncData} (F : Fun K "_law_free_names" "_law_free_names" sFree f fd) (B : TxB mg) : FnOk P w K mg base CX0 1 f fd ["_law_w"] (spP fFree) :=
  ok_def (N := nFree) (Φ := FFree) F scFree fun cdv A outer s H E hr => ⟨_, (ss_one (sd_ret (OwD.pu (LcD.ow (lcI [("_law_name", 1), ("_law_values", 2)] (it_zip (pu_dg (hu_of hr) (PuD.vi (pu_var (pv 0))) (PuD.vi (pu_c pe_str (by decide +kernel))) (fun _ _ => rfl)) (pu_dg (hu_of hr) (PuD.vi (pu_var (pv 0))) (PuD.vi (pu_c pe_str (by decide +kernel))) (fun _ _ => rfl)) (by rfl) B.z_zip) (blkOk_by (N := nFree) (sc := defScope sFree) (by decide +kernel)) (fun _ _ _ _ _ => (tg_tup rfl (tgs_cons (tg_name (pg_name (i := 1) scFree.nd rfl (Or.inl rfl))) (tgs_cons (tg_name (pg_name (i := 2) scFree.nd rfl (Or.inl rfl))) tgs_nil)))) (fun _ _ _ _ _ => (tw_tup (tws_cons mono_nm (tw_name (by decide)) (tws_cons mono_nm (tw_name (by decide)) tws_nil)))) (fun _ _ _ _ _ => (te_cmp op_isN r2_isN (nomark _) (PuD.vi (pu_var (pv 2))) (PuD.vi (pu_c pe_non rfl)))) (fun _ _ _ _ _ => (pu_var (pv 1)))) rfl scFree.nd))))⟩
abbrev sSpare : Stmt := top 22
abbrev nSpare : List Str := ["_law_w", "_law_known", "_law_some", "_law_word_here", "_law_letter"]
theorem scSpare : FnScope nSpare ["_law_w"] (defScope sSpare) := ⟨rfl, rfl, rfl, by decide +kernel, rfl, by decide +kernel, by decide +kernel⟩
def FSpare : L2.Tr.Env → Option Out := (seqF (asgF (bin2 addD (mapS (app1 lstA (consD (bin2 dgD (atP 0) (kD (.leaf (.str "names")))) nilD))) (mapS (app1 lstA (consD (bin2 dgD (atP 0) (kD (.leaf (.str "named")))) nilD)))) (setF 1)) (seqF (forF (seqsF (bin2 dgD (atP 0) (kD (.leaf (.str "values"))))) (setF 2) (asgF (bin2 addD (atP 1) (mapS (app1 lstA (consD (orF (atP 2) (mapS (lstDisp nilD))) nilD)))) (setF 1))) (retF (mapS (lcF [3] (seqsF (mapS (lcF [4] (strsF (kD (.leaf (.str "abcdefghijklmnopqrstuv")))) (setF 4) yesF (bin2 addD (kD (.leaf (.str "zz"))) (atP 4))))) (setF 3) (asBF (bin2 (inD true) (atP 3) (atP 1))) (atP 3))))))
def fSpare (ds : List D) : Option D := if ds.length = (["_law_w"] : List Str).length then runF nSpare.length FSpare ds else none
theorem okSpare {f : Addr} {fd : FuncData} (F : Fun K "_law_spare" "_law_spare" sSpare f fd) (B : TxB mg) : FnOk P w K mg base CX0 1 f fd ["_law_w"] (spP fSpare) :=
  ok_def (N := nSpare) (Φ := FSpare) F scSpare fun cdv A outer s H E hr => ⟨_, (ss_cons (sd_nm (pu_add (PuD.vi (OwD.pu (ow_cty (CallR.or call_list_of (call_list_dK rfl)) (R1O.or r1_lst r1_lstK) (by rfl) B.z_list (by decide +kernel) (av_cons (PuD.vi (pu_dg (hu_of hr) (PuD.vi (pu_var (pv 0))) (PuD.vi (pu_c pe_str (by decide +kernel))) (fun _ _ => rfl))) av_nil)))) (PuD.vi (OwD.pu (ow_cty (CallR.or call_list_of (call_list_dK rfl)) (R1O.or r1_lst r1_lstK) (by rfl) B.z_list (by decide +kernel) (av_cons (PuD.vi (pu_dg (hu_of hr) (PuD.vi (pu_var (pv 0))) (PuD.vi (pu_c pe_str (by decide +kernel))) (fun _ _ => rfl))) av_nil))))) (fun h => ps_set (i := 1) scSpare.nd rfl (by first | exact Or.inl rfl | exact Or.inr rfl) h)) (ss_cons (sd_for PassesOwn.never rfl (it_seq (pu_dg (hu_of hr) (PuD.vi (pu_var (pv 0))) (PuD.vi (pu_c pe_str (by decide +kernel))) (fun _ _ => rfl))) (tg_name (pg_name (i := 2) scSpare.nd rfl (by first | exact Or.inl rfl | exact Or.inr rfl))) (ss_one (sd_nm (pu_add (PuD.vi (pu_var (pv 1))) (PuD.vi (OwD.pu (ow_cty (CallR.or call_list_of (call_list_dK rfl)) (R1O.or r1_lst r1_lstK) (by rfl) B.z_list (by decide +kernel) (av_cons (PuD.vi (pu_orT (pu_var (pv 2)) (pu_one (OwD.pu (ow_lst ar_nil))))) av_nil))))) (fun h => ps_set (i := 1) scSpare.nd rfl (by first | exact Or.inl rfl | exact Or.inr rfl) h)))) (ss_one (sd_ret (OwD.pu (LcD.ow (lcI [("_law_word_here", 3)] (it_seq (OwD.pu (LcD.ow (lc0 [("_law_letter", 4)] (it_str (pu_c pe_str (by decide +kernel))) (blkOk_by (N := nSpare) (sc := defScope sSpare) (by decide +kernel)) (fun _ _ _ _ _ => (tg_name (pg_name (i := 4) scSpare.nd rfl (Or.inl rfl)))) (fun _ _ _ _ _ => (tw_name (by decide))) (fun _ _ _ _ _ => (pu_add (PuD.vi (pu_c pe_str (by decide +kernel))) (PuD.vi (pu_var (pv 4)))))) rfl scSpare.nd))) (blkOk_by (N := nSpare) (sc := defScope sSpare) (by decide +kernel)) (fun _ _ _ _ _ => (tg_name (pg_name (i := 3) scSpare.nd rfl (Or.inl rfl)))) (fun _ _ _ _ _ => (tw_name (by decide))) (fun _ _ _ _ _ => (te_cmp op_notIn_seq r2_in (by with_unfolding_all rfl) (PuD.vi (pu_var (pv 3))) (PuD.vi (pu_var (pv 1))))) (fun _ _ _ _ _ => (pu_var (pv 3)))) rfl scSpare.nd))))))⟩
abbrev sLetters : Stmt := top 21
abbrev nLetters : List Str := ["_law_w", "_law_rows", "_law_spare_here", "_law_values", "_law_longer", "_law_row", "_law_fresh", "_law_some", "_law_word_here"]
theorem scLetters : FnScope nLetters ["_law_w"] (defScope sLetters) := ⟨rfl, rfl, rfl, by decide +kernel, rfl, by decide +kernel, by decide +kernel⟩
def FLetters : L2.Tr.Env → Option Out := (seqF (par_pp 1 2 (mapS (lstDisp (consD (tupDisp nilD) nilD))) (app1 fSpare (consD (atP 0) nilD))) (seqF (forF (seqsF (bin2 dgD (atP 0) (kD (.leaf (.str "values"))))) (setF 3) (seqF (asgO 4 (lstDisp nilD)) (seqF (forF (seqsF (atP 1)) (setF 5) (seqF (asgF (ifF (asBF (bin2 (inD false) (bin2 ixD (atP 2) (kD (.leaf (.int 0)))) (atP 5))) (orE (mapS (slF slO (atP 2) (fun _ => some none) (partF (kD (.leaf (.int 2)))))) (slF slT (atP 2) (fun _ => some none) (partF (kD (.leaf (.int 2)))))) (orE (mapS (slF slO (atP 2) (fun _ => some none) (partF (kD (.leaf (.int 1)))))) (slF slT (atP 2) (fun _ => some none) (partF (kD (.leaf (.int 1))))))) (setF 6)) (seqF (asgF (ifF (asBF (bin2 (isN true) (atP 3) (kD (.leaf .non)))) (mapS (app1 lstA (consD (atP 3) nilD))) (bin2 addD (bin2 dgD (atP 0) (kD (.leaf (.str "named")))) (atP 6))) (setF 7)) (growF 4 (extArg (mapS (lcF [8] (seqsF (atP 7)) (setF 8) yesF (bin2 addD (atP 5) (tupDisp (consD (atP 8) nilD)))))) fun xs ds => xs ++ ds)))) (moveF 1 4)))) (retF (atP 1))))
def fLetters (ds : List D) : Option D := if ds.length = (["_law_w"] : List Str).length then runF nLetters.length FLetters ds else none
theorem okLetters {f : Addr} {fd : FuncData} (F : Fun K "_law_letters" "_law_letters" sLetters f fd) (B : TxB mg) (hSp : Fn P w K mg base "_law_spare" 1 1 fSpare) : FnOk P w K mg base CX0 2 f fd ["_law_w"] (spP fLetters) :=
  ok_def (N := nLetters) (Φ := FLetters) F scLetters fun cdv A outer s H E hr => ⟨_, (ss_cons (sd_par_pp (OwD.pu (ow_lst (ar_cons (pu_tup ar_nil) ar_nil))) (pu_call hSp (hr.mono (by first | decide | omega)) (by rfl) (ar_cons (pu_var (pv 0)) ar_nil)) (by decide) (fun h => ps_par (i := 1) (j := 2) rfl scLetters.nd rfl rfl (by decide) rfl rfl h (by rfl))) (ss_cons (sd_for PassesOwn.never rfl (it_seq (pu_dg (hu_of hr) (PuD.vi (pu_var (pv 0))) (PuD.vi (pu_c pe_str (by decide +kernel))) (fun _ _ => rfl))) (tg_name (pg_name (i := 3) scLetters.nd rfl (by first | exact Or.inl rfl | exact Or.inr rfl))) (ss_cons (sd_nmO (ow_lst ar_nil) (fun h => ps_set (i := 4) scLetters.nd rfl (by first | exact Or.inl rfl | exact Or.inr rfl) h)) (ss_cons (sd_for PassesOwn.never rfl (it_seq (pu_var (pv 1))) (tg_name (pg_name (i := 5) scLetters.nd rfl (by first | exact Or.inl rfl | exact Or.inr rfl))) (ss_cons (sd_nm (pu_if (te_cmp op_in_seq r2_in (by with_unfolding_all rfl) (PuD.vi (pu_ix (PuD.vi (pu_var (pv 2))) (PuD.vi (pu_c pe_int rfl)) (fun _ _ => rfl))) (PuD.vi (pu_var (pv 5)))) (PuD.or (OwD.pu (ow_sl (PuD.vi (pu_var (pv 2))) so_none (so_some (pu_c pe_int rfl)))) (pu_slT (PuD.vi (pu_var (pv 2))) so_none (so_some (pu_c pe_int rfl)))) (PuD.or (OwD.pu (ow_sl (PuD.vi (pu_var (pv 2))) so_none (so_some (pu_c pe_int rfl)))) (pu_slT (PuD.vi (pu_var (pv 2))) so_none (so_some (pu_c pe_int rfl))))) (fun h => ps_set (i := 6) scLetters.nd rfl (by first | exact Or.inl rfl | exact Or.inr rfl) h)) (ss_cons (sd_nm (pu_if (te_cmp op_notN r2_notN (nomark _) (PuD.vi (pu_var (pv 3))) (PuD.vi (pu_c pe_non rfl))) (OwD.pu (ow_cty (CallR.or call_list_of (call_list_dK rfl)) (R1O.or r1_lst r1_lstK) (by rfl) B.z_list (by decide +kernel) (av_cons (PuD.vi (pu_var (pv 3))) av_nil))) (pu_add (PuD.vi (pu_dg (hu_of hr) (PuD.vi (pu_var (pv 0))) (PuD.vi (pu_c pe_str (by decide +kernel))) (fun _ _ => rfl))) (PuD.vi (pu_var (pv 6))))) (fun h => ps_set (i := 7) scLetters.nd rfl (by first | exact Or.inl rfl | exact Or.inr rfl) h)) (ss_one (sd_extK (i := 4) (OwD.pu (LcD.ow (lc0 [("_law_word_here", 8)] (it_seq (pu_var (pv 7))) (blkOk_by (N := nLetters) (sc := defScope sLetters) (by decide +kernel)) (fun _ _ _ _ _ => (tg_name (pg_name (i := 8) scLetters.nd rfl (Or.inl rfl)))) (fun _ _ _ _ _ => (tw_name (by decide))) (fun _ _ _ _ _ => (pu_add (PuD.vi (pu_var (pv 5))) (PuD.vi (pu_tup (ar_cons (pu_var (pv 8)) ar_nil)))))) rfl scLetters.nd)) (fun h => ps_expr (pe_bm PySem.F.plainAttrs_list PySem.F.slot_list_extend PySem.F.type_list_extend mt_extend (pv 4) (pa_cons h pa_nil)))))))) (ss_one (sd_move (i := 1) (pv 4) (fun h => ps_set (i := 1) scLetters.nd rfl (by first | exact Or.inl rfl | exact Or.inr rfl) h)))))) (ss_one (sd_ret (pu_var (pv 1))))))⟩
abbrev sOdd : Stmt := top 29
abbrev nOdd : List Str := ["_law_w", "_law_row", "_law_some", "_law_found", "_law_odd", "_law_at"]
theorem scOdd : FnScope nOdd ["_law_w"] (defScope sOdd) := ⟨rfl, rfl, rfl, by decide +kernel, rfl, by decide +kernel, by decide +kernel⟩
def FOdd : L2.Tr.Env → Option Out := (seqF (asgF (mapS (lcF [2] (seqsF (bin2 dgD (atP 0) (kD (.leaf (.str "values"))))) (setF 2) yesF (bin2 ixD (mapS (app1 lstA (consD (orF (atP 2) (mapS (lstDisp (consD (kD (.leaf (.str "zz"))) nilD)))) nilD))) (kD (.leaf (.int 0)))))) (setF 1)) (seqF (asgO 3 (lstDisp (consD (bin2 addD (atP 1) (mapS (lstDisp (consD (kD (.leaf (.str "a"))) nilD)))) (consD (orE (mapS (slF slO (atP 1) (fun _ => some none) (partF (negF (kD (.leaf (.int 1))))))) (slF slT (atP 1) (fun _ => some none) (partF (negF (kD (.leaf (.int 1))))))) (consD (kD (.leaf .non)) (consD (kD (.leaf (.int 5))) (consD (kD (.leaf (.str "ab"))) (consD (kD (.dct [] [])) (consD (mapS (lstDisp nilD)) (consD (kD (.leaf (.bl true))) nilD)))))))))) (seqF (forF (seqsF (mapS (lstDisp (consD (kD (.leaf (.int 5))) (consD (kD (.leaf .non)) (consD (kD (.leaf (.str "A"))) (consD (kD (.leaf (.str ""))) (consD (mapS (lstDisp (consD (kD (.leaf (.str "a"))) nilD))) (consD (kD (.leaf (.str "abcdefghi"))) (consD (kD (.leaf (.str "a b"))) nilD)))))))))) (setF 4) (growF 3 (bin2 addD (orE (mapS (slF slO (atP 1) (fun _ => some none) (partF (negF (kD (.leaf (.int 1))))))) (slF slT (atP 1) (fun _ => some none) (partF (negF (kD (.leaf (.int 1))))))) (mapS (lstDisp (consD (atP 4) nilD)))) fun xs d => xs ++ [d])) (seqF (forF (enumF (bin2 dgD (atP 0) (kD (.leaf (.str "values"))))) (tupT 2 (consT (setF 5) (consT (setF 2) nilT))) (ifS (asBF (bin2 (isN true) (atP 2) (kD (.leaf .non)))) (growF 3 (bin2 addD (bin2 addD (orE (mapS (slF slO (atP 1) (fun _ => some none) (partF (atP 5)))) (slF slT (atP 1) (fun _ => some none) (partF (atP 5)))) (orE (mapS (slF slO (app1 fSpare (consD (atP 0) nilD)) (fun _ => some none) (partF (kD (.leaf (.int 1)))))) (slF slT (app1 fSpare (consD (atP 0) nilD)) (fun _ => some none) (partF (kD (.leaf (.int 1))))))) (orE (mapS (slF slO (atP 1) (partF (bin2 addD (atP 5) (kD (.leaf (.int 1))))) (fun _ => some none))) (slF slT (atP 1) (partF (bin2 addD (atP 5) (kD (.leaf (.int 1))))) (fun _ => some none)))) fun xs d => xs ++ [d]) skipF)) (retO 3)))))
def fOdd (ds : List D) : Option D := if ds.length = (["_law_w"] : List Str).length then runF nOdd.length FOdd ds else none
theorem okOdd {f : Addr} {fd : FuncData} (F : Fun K "_law_odd_rows" "_law_odd_rows" sOdd f fd) (B : TxB mg) (hSp : Fn P w K mg base "_law_spare" 1 1 fSpare) : FnOk P w K mg base CX0 2 f fd ["_law_w"] (spP fOdd) :=
  ok_def (N := nOdd) (Φ := FOdd) F scOdd fun cdv A outer s H E hr => ⟨_, (ss_cons (sd_set (OwD.pu (LcD.ow (lc0 [("_law_some", 2)] (it_seq (pu_dg (hu_of hr) (PuD.vi (pu_var (pv 0))) (PuD.vi (pu_c pe_str (by decide +kernel))) (fun _ _ => rfl))) (blkOk_by (N := nOdd) (sc := defScope sOdd) (by decide +kernel)) (fun _ _ _ _ _ => (tg_name (pg_name (i := 2) scOdd.nd rfl (Or.inl rfl)))) (fun _ _ _ _ _ => (tw_name (by decide))) (fun _ _ _ _ _ => (pu_ix (PuD.vi (OwD.pu (ow_cty (CallR.or call_list_of (call_list_dK rfl)) (R1O.or r1_lst r1_lstK) (by rfl) B.z_list (by decide +kernel) (av_cons (PuD.vi (pu_orT (pu_var (pv 2)) (pu_one (OwD.pu (ow_lst (ar_cons (pu_c pe_str (by decide +kernel)) ar_nil)))))) av_nil)))) (PuD.vi (pu_c pe_int rfl)) (fun _ _ => rfl)))) rfl scOdd.nd)) (LcD.set (i := 1) (lc0 [("_law_some", 2)] (it_seq (pu_dg (hu_of hr) (PuD.vi (pu_var (pv 0))) (PuD.vi (pu_c pe_str (by decide +kernel))) (fun _ _ => rfl))) (blkOk_by (N := nOdd) (sc := defScope sOdd) (by decide +kernel)) (fun _ _ _ _ _ => (tg_name (pg_name (i := 2) scOdd.nd rfl (Or.inl rfl)))) (fun _ _ _ _ _ => (tw_name (by decide))) (fun _ _ _ _ _ => (pu_ix (PuD.vi (OwD.pu (ow_cty (CallR.or call_list_of (call_list_dK rfl)) (R1O.or r1_lst r1_lstK) (by rfl) B.z_list (by decide +kernel) (av_cons (PuD.vi (pu_orT (pu_var (pv 2)) (pu_one (OwD.pu (ow_lst (ar_cons (pu_c pe_str (by decide +kernel)) ar_nil)))))) av_nil)))) (PuD.vi (pu_c pe_int rfl)) (fun _ _ => rfl)))) rfl scOdd.nd rfl rfl (sw_true rfl rfl rfl (by decide +kernel)))) (ss_cons (sd_nmO (ow_lst (ar_cons (pu_add (PuD.vi (pu_var (pv 1))) (PuD.vi (OwD.pu (ow_lst (ar_cons (pu_c pe_str (by decide +kernel)) ar_nil))))) (ar_cons (PuD.or (OwD.pu (ow_sl (PuD.vi (pu_var (pv 1))) so_none (so_some (pu_neg (pu_c pe_int rfl))))) (pu_slT (PuD.vi (pu_var (pv 1))) so_none (so_some (pu_neg (pu_c pe_int rfl))))) (ar_cons (pu_c pe_non rfl) (ar_cons (pu_c pe_int rfl) (ar_cons (pu_c pe_str (by decide +kernel)) (ar_cons pu_dnew (ar_cons (OwD.pu (ow_lst ar_nil)) (ar_cons (pu_c pe_bl rfl) ar_nil))))))))) (fun h => ps_set (i := 3) scOdd.nd rfl (by first | exact Or.inl rfl | exact Or.inr rfl) h)) (ss_cons (sd_for PassesOwn.never rfl (it_seq (OwD.pu (ow_lst (ar_cons (pu_c pe_int rfl) (ar_cons (pu_c pe_non rfl) (ar_cons (pu_c pe_str (by decide +kernel)) (ar_cons (pu_c pe_str (by decide +kernel)) (ar_cons (OwD.pu (ow_lst (ar_cons (pu_c pe_str (by decide +kernel)) ar_nil))) (ar_cons (pu_c pe_str (by decide +kernel)) (ar_cons (pu_c pe_str (by decide +kernel)) ar_nil)))))))))) (tg_name (pg_name (i := 4) scOdd.nd rfl (by first | exact Or.inl rfl | exact Or.inr rfl))) (ss_one (sd_appK (i := 3) (pu_add (PuD.vi (PuD.or (OwD.pu (ow_sl (PuD.vi (pu_var (pv 1))) so_none (so_some (pu_neg (pu_c pe_int rfl))))) (pu_slT (PuD.vi (pu_var (pv 1))) so_none (so_some (pu_neg (pu_c pe_int rfl)))))) (PuD.vi (OwD.pu (ow_lst (ar_cons (pu_var (pv 4)) ar_nil))))) (fun h => ps_expr (pe_bm PySem.F.plainAttrs_list PySem.F.slot_list_append PySem.F.type_list_append mt_append (pv 3) (pa_cons h pa_nil)))))) (ss_cons (sd_for PassesOwn.never rfl (it_enum (pu_dg (hu_of hr) (PuD.vi (pu_var (pv 0))) (PuD.vi (pu_c pe_str (by decide +kernel))) (fun _ _ => rfl)) (by rfl) B.z_enumerate) (tg_tup rfl (tgs_cons (tg_name (pg_name (i := 5) scOdd.nd rfl (by first | exact Or.inl rfl | exact Or.inr rfl))) (tgs_cons (tg_name (pg_name (i := 2) scOdd.nd rfl (by first | exact Or.inl rfl | exact Or.inr rfl))) tgs_nil))) (ss_one (sd_if (te_cmp op_notN r2_notN (nomark _) (PuD.vi (pu_var (pv 2))) (PuD.vi (pu_c pe_non rfl))) (ss_one (sd_appK (i := 3) (pu_add (PuD.vi (pu_add (PuD.vi (PuD.or (OwD.pu (ow_sl (PuD.vi (pu_var (pv 1))) so_none (so_some (pu_var (pv 5))))) (pu_slT (PuD.vi (pu_var (pv 1))) so_none (so_some (pu_var (pv 5)))))) (PuD.vi (PuD.or (OwD.pu (ow_sl (PuD.vi (pu_call hSp (hr.mono (by first | decide | omega)) (by rfl) (ar_cons (pu_var (pv 0)) ar_nil))) so_none (so_some (pu_c pe_int rfl)))) (pu_slT (PuD.vi (pu_call hSp (hr.mono (by first | decide | omega)) (by rfl) (ar_cons (pu_var (pv 0)) ar_nil))) so_none (so_some (pu_c pe_int rfl))))))) (PuD.vi (PuD.or (OwD.pu (ow_sl (PuD.vi (pu_var (pv 1))) (so_some (pu_add (PuD.vi (pu_var (pv 5))) (PuD.vi (pu_c pe_int rfl)))) so_none)) (pu_slT (PuD.vi (pu_var (pv 1))) (so_some (pu_add (PuD.vi (pu_var (pv 5))) (PuD.vi (pu_c pe_int rfl)))) so_none)))) (fun h => ps_expr (pe_bm PySem.F.plainAttrs_list PySem.F.slot_list_append PySem.F.type_list_append mt_append (pv 3) (pa_cons h pa_nil))))) ss_nil))) (ss_one (sd_retO (pv 3)))))))⟩
abbrev sSame : Stmt := top 26
abbrev nSame : List Str := ["_law_found", "_law_due", "_law_one", "_law_other"]
theorem scSame : FnScope nSame ["_law_found", "_law_due"] (defScope sSame) := ⟨rfl, rfl, rfl, by decide +kernel, rfl, by decide +kernel, by decide +kernel⟩
def FSame (g : List D → Option D) : L2.Tr.Env → Option Out := (seqF (ifS (truF (isF isSeq (atP 1))) (seqF (ifS (orB (asBF (bin2 (scD true) (isF isLst (atP 0)) (isF isLst (atP 1)))) (asBF (bin2 (scD true) (isF isTup (atP 0)) (isF isTup (atP 1))))) (retF (kD (.leaf (.bl false)))) skipF) (retF (andF (bin2 (scD false) (app1 lenA (consD (atP 0) nilD)) (app1 lenA (consD (atP 1) nilD))) (app1 allD (consD (mapS (lcF [2, 3] (zipF (atP 0) (atP 1)) (tupT 2 (consT (setF 2) (consT (setF 3) nilT))) yesF (app1 g (consD (atP 2) (consD (atP 3) nilD))))) nilD))))) skipF) (seqF (ifS (truF (isF isInt (atP 1))) (retF (andF (isF isInt (atP 0)) (andF (bin2 (scD false) (isF isBool (atP 0)) (isF isBool (atP 1))) (bin2 (scD false) (atP 0) (atP 1))))) skipF) (retF (andF (bin2 (scD false) (atP 0) (atP 1)) (bin2 isB (isF isIntSeq (atP 0)) (kD (.leaf (.bl false))))))))
def fSame (g : List D → Option D) (ds : List D) : Option D := if ds.length = (["_law_found", "_law_due"] : List Str).length then runF nSame.length (FSame g ) ds else none
theorem okSame {f : Addr} {fd : FuncData} (g : List D → Option D) (F : Fun K "_law_same" "_law_same" sSame f fd) (B : TxB mg) {k : Nat} (hS : Fn P w K mg base "_law_same" k 2 g) : FnOk P w K mg base CX0 (k + 1) f fd ["_law_found", "_law_due"] (spP (fSame g )) :=
  ok_def (N := nSame) (Φ := FSame g ) F scSame fun cdv A outer s H E hr => ⟨_, (ss_cons (sd_if (te_tru (PuD.vi (pu_isiT isTs_seq (by rfl) B.z_isinstance (by decide +kernel) (PuD.vi (pu_var (pv 1))) (TyArgs.cons (pe_bltn (v := .ty "list") (by rfl) B.z_list (by decide +kernel) rfl) (TyArgs.cons (pe_bltn (v := .ty "tuple") (by rfl) B.z_tuple (by decide +kernel) rfl) TyArgs.nil (by rfl)) (by rfl)) (by decide))) (fun _ => rfl)) (ss_cons (sd_if (TwD.te (tw_or (te_cmp op_ne r2_neS (nomark _) (PuD.vi (pu_isi isT_lst (by rfl) B.z_isinstance (by decide +kernel) (PuD.vi (pu_var (pv 0))) (pe_bltn (v := .ty "list") (by rfl) B.z_list (by decide +kernel) rfl))) (PuD.vi (pu_isi isT_lst (by rfl) B.z_isinstance (by decide +kernel) (PuD.vi (pu_var (pv 1))) (pe_bltn (v := .ty "list") (by rfl) B.z_list (by decide +kernel) rfl)))) (tw_or1 (te_cmp op_ne r2_neS (nomark _) (PuD.vi (pu_isi isT_tup (by rfl) B.z_isinstance (by decide +kernel) (PuD.vi (pu_var (pv 0))) (pe_bltn (v := .ty "tuple") (by rfl) B.z_tuple (by decide +kernel) rfl))) (PuD.vi (pu_isi isT_tup (by rfl) B.z_isinstance (by decide +kernel) (PuD.vi (pu_var (pv 1))) (pe_bltn (v := .ty "tuple") (by rfl) B.z_tuple (by decide +kernel) rfl))))))) (ss_one (sd_ret (pu_c pe_bl rfl))) ss_nil) (ss_one (sd_ret (pu_andT (pu_cmp op_eq r2_eqS (nomark _) (PuD.vi (pu_cb (CallR.or call_len call_lenD) (R1D.or r1_len r1_lenK) (by rfl) B.z_len (by decide +kernel) (av_cons (PuD.vi (pu_var (pv 0))) av_nil))) (PuD.vi (pu_cb (CallR.or call_len call_lenD) (R1D.or r1_len r1_lenK) (by rfl) B.z_len (by decide +kernel) (av_cons (PuD.vi (pu_var (pv 1))) av_nil)))) (pu_one (pu_cb (cr_all rfl) r1_all (by rfl) B.z_all (by decide +kernel) (av_cons (PuD.vi (OwD.pu (LcD.ow (lc0 [("_law_one", 2), ("_law_other", 3)] (it_zip (pu_var (pv 0)) (pu_var (pv 1)) (by rfl) B.z_zip) (blkOk_by (N := nSame) (sc := defScope sSame) (by decide +kernel)) (fun _ _ _ _ _ => (tg_tup rfl (tgs_cons (tg_name (pg_name (i := 2) scSame.nd rfl (Or.inl rfl))) (tgs_cons (tg_name (pg_name (i := 3) scSame.nd rfl (Or.inl rfl))) tgs_nil)))) (fun _ _ _ _ _ => (tw_tup (tws_cons mono_nm (tw_name (by decide)) (tws_cons mono_nm (tw_name (by decide)) tws_nil)))) (fun _ _ _ _ _ => (pu_call hS (hr.mono (by first | decide | omega)) (by rfl) (ar_cons (pu_var (pv 2)) (ar_cons (pu_var (pv 3)) ar_nil))))) rfl scSame.nd))) av_nil))))))) ss_nil) (ss_cons (sd_if (te_tru (PuD.vi (pu_isi isT_int (by rfl) B.z_isinstance (by decide +kernel) (PuD.vi (pu_var (pv 1))) (pe_bltn (v := .ty "int") (by rfl) B.z_int (by decide +kernel) rfl))) (fun _ => rfl)) (ss_one (sd_ret (pu_andT (pu_isi isT_int (by rfl) B.z_isinstance (by decide +kernel) (PuD.vi (pu_var (pv 0))) (pe_bltn (v := .ty "int") (by rfl) B.z_int (by decide +kernel) rfl)) (pu_andT (pu_cmp op_eq r2_eqS (nomark _) (PuD.vi (pu_isi isT_bool (by rfl) B.z_isinstance (by decide +kernel) (PuD.vi (pu_var (pv 0))) (pe_bltn (v := .ty "bool") (by rfl) B.z_bool (by decide +kernel) rfl))) (PuD.vi (pu_isi isT_bool (by rfl) B.z_isinstance (by decide +kernel) (PuD.vi (pu_var (pv 1))) (pe_bltn (v := .ty "bool") (by rfl) B.z_bool (by decide +kernel) rfl)))) (pu_one (pu_cmp op_eq r2_eqS (nomark _) (PuD.vi (pu_var (pv 0))) (PuD.vi (pu_var (pv 1))))))))) ss_nil) (ss_one (sd_ret (pu_andT (pu_cmp op_eq r2_eqS (nomark _) (PuD.vi (pu_var (pv 0))) (PuD.vi (pu_var (pv 1)))) (pu_one (pu_cmp op_isBl r2_isB (nomark _) (PuD.vi (pu_isiT isTs_intSeq (by rfl) B.z_isinstance (by decide +kernel) (PuD.vi (pu_var (pv 0))) (TyArgs.cons (pe_bltn (v := .ty "int") (by rfl) B.z_int (by decide +kernel) rfl) (TyArgs.cons (pe_bltn (v := .ty "list") (by rfl) B.z_list (by decide +kernel) rfl) (TyArgs.cons (pe_bltn (v := .ty "tuple") (by rfl) B.z_tuple (by decide +kernel) rfl) TyArgs.nil (by rfl)) (by rfl)) (by rfl)) (by decide))) (PuD.vi (pu_c pe_bl rfl)))))))))⟩
abbrev sShows : Stmt := top 30
abbrev nShows : List Str := ["_law_columns", "_law_w", "_law_again", "_law_names", "_law_name", "_law_some", "_law_thing", "_law_row"]
theorem scShows : FnScope nShows ["_law_columns", "_law_w"] (defScope sShows) := ⟨rfl, rfl, rfl, by decide +kernel, rfl, by decide +kernel, by decide +kernel⟩
def FShows (C : Addr) (gN : List D → Option (List D)) (gT gR gL gI gS : List D → Option D) : L2.Tr.Env → Option Out := (seqF (forF (rngF (kD (.leaf (.int 2)))) (setF 2) (seqF (asgO 3 (metFO C "names" gN (atP 0))) (seqF (ifS (orB (notB (truF (app1 (fun ds => leafOf (gS ds)) (consD (atV 3) (consD (bin2 dgD (atP 1) (kD (.leaf (.str "names")))) nilD))))) (asBF (bin2 (scD true) (app1 (lenOD C gL) (consD (atP 0) nilD)) (app1 lenA (consD (atV 3) nilD))))) (retF (kD (.leaf (.bl false)))) skipF) (growF 3 (kD (.leaf (.str "more"))) fun xs d => xs ++ [d])))) (seqF (forF (zipF (bin2 dgD (atP 1) (kD (.leaf (.str "names")))) (bin2 dgD (atP 1) (kD (.leaf (.str "values"))))) (tupT 2 (consT (setF 4) (consT (setF 5) nilT))) (ifS (orB (notB (truF (app1 (fun ds => leafOf (gS ds)) (consD (metF C "told_values" gT (atP 0) (consD (atP 4) nilD)) (consD (atP 5) nilD))))) (asBF (bin2 (conD true C gI) (atP 4) (atP 0)))) (retF (kD (.leaf (.bl false)))) skipF)) (seqF (forF (seqsF (mapS (lstDisp (consD (kD (.leaf (.str ""))) (consD (kD (.leaf (.str "number"))) (consD (kD (.leaf (.int 5))) (consD (kD (.leaf .non)) (consD (mapS (lstDisp (consD (bin2 ixD (bin2 dgD (atP 1) (kD (.leaf (.str "names")))) (kD (.leaf (.int 0)))) nilD))) (consD (tupDisp nilD) (consD (kD (.dct [] [])) (consD (kD (.leaf (.bl true))) (consD (bin2 ixD (app1 fSpare (consD (atP 1) nilD)) (kD (.leaf (.int 0)))) nilD)))))))))))) (setF 6) (ifS (asBF (bin2 (conD false C gI) (atP 6) (atP 0))) (retF (kD (.leaf (.bl false)))) skipF)) (seqF (forF (seqsF (app1 fLetters (consD (atP 1) nilD))) (setF 7) (ifS (orB (notB (truF (metF C "is_row" gR (atP 0) (consD (atP 7) nilD)))) (notB (truF (metF C "is_row" gR (atP 0) (consD (mapS (app1 lstA (consD (atP 7) nilD))) nilD))))) (retF (kD (.leaf (.bl false)))) skipF)) (retF (notF (app1 anyD (consD (mapS (lcF [6] (seqsF (app1 fOdd (consD (atP 1) nilD))) (setF 6) yesF (metF C "is_row" gR (atP 0) (consD (atP 6) nilD)))) nilD))))))))
def fShows (C : Addr) (gN : List D → Option (List D)) (gT gR gL gI gS : List D → Option D) (ds : List D) : Option D := if ds.length = (["_law_columns", "_law_w"] : List Str).length then runF nShows.length (FShows C gN gT gR gL gI gS ) ds else none
theorem okShows {f : Addr} {fd : FuncData} (C : Addr) (gN : List D → Option (List D)) (gT gR gL gI gS : List D → Option D) (F : Fun K "_law_shows" "_law_shows" sShows f fd) (B : TxB mg) (mN : MthO P w K mg base C "names" 1 gN) (mT : Mth P w K mg base C "told_values" 2 gT) (mR : Mth P w K mg base C "is_row" 3 gR) (mL : Len P w K mg base C 1 gL) (mI : L2.Tr.Con P w K mg base C 1 gI) (hS : Fn P w K mg base "_law_same" 4 2 gS) (hSp : Fn P w K mg base "_law_spare" 1 1 fSpare) (hLe : Fn P w K mg base "_law_letters" 2 1 fLetters) (hO : Fn P w K mg base "_law_odd_rows" 2 1 fOdd) : FnOk P w K mg base CX0 5 f fd ["_law_columns", "_law_w"] (spP (fShows C gN gT gR gL gI gS )) :=
  ok_def (N := nShows) (Φ := FShows C gN gT gR gL gI gS ) F scShows fun cdv A outer s H E hr => ⟨_, (ss_cons (sd_for PassesOwn.never rfl (it_rng (pu_c pe_int rfl) (by rfl) B.z_range) (tg_name (pg_name (i := 2) scShows.nd rfl (by first | exact Or.inl rfl | exact Or.inr rfl))) (ss_cons (sd_nmO (ow_meth0 mN (hr.mono (by first | decide | omega)) (pu_var (pv 0))) (fun h => ps_set (i := 3) scShows.nd rfl (by first | exact Or.inl rfl | exact Or.inr rfl) h)) (ss_cons (sd_if (TwD.te (tw_or (te_not (te_tru (PuD.vi (pu_callV hS (hr.mono (by decide)) (by rfl) (av_cons (vi_var (pv 3)) (av_cons (PuD.vi (pu_dg (hu_of hr) (PuD.vi (pu_var (pv 1))) (PuD.vi (pu_c pe_str (by decide +kernel))) (fun _ _ => rfl))) av_nil)))) (fun _ => rfl))) (tw_or1 (te_cmp op_ne r2_neS (nomark _) (PuD.vi (pu_cb (len_cr mL (hr.mono (by first | decide | omega))) r1_lenO (by rfl) B.z_len (by decide +kernel) (av_cons (PuD.vi (pu_var (pv 0))) av_nil))) (PuD.vi (pu_cb (CallR.or call_len call_lenD) (R1D.or r1_len r1_lenK) (by rfl) B.z_len (by decide +kernel) (av_cons (vi_var (pv 3)) av_nil))))))) (ss_one (sd_ret (pu_c pe_bl rfl))) ss_nil) (ss_one (sd_appK (i := 3) (pu_c pe_str (by decide +kernel)) (fun h => ps_expr (pe_bm PySem.F.plainAttrs_list PySem.F.slot_list_append PySem.F.type_list_append mt_append (pv 3) (pa_cons h pa_nil)))))))) (ss_cons (sd_for PassesOwn.never rfl (it_zip (pu_dg (hu_of hr) (PuD.vi (pu_var (pv 1))) (PuD.vi (pu_c pe_str (by decide +kernel))) (fun _ _ => rfl)) (pu_dg (hu_of hr) (PuD.vi (pu_var (pv 1))) (PuD.vi (pu_c pe_str (by decide +kernel))) (fun _ _ => rfl)) (by rfl) B.z_zip) (tg_tup rfl (tgs_cons (tg_name (pg_name (i := 4) scShows.nd rfl (by first | exact Or.inl rfl | exact Or.inr rfl))) (tgs_cons (tg_name (pg_name (i := 5) scShows.nd rfl (by first | exact Or.inl rfl | exact Or.inr rfl))) tgs_nil))) (ss_one (sd_if (TwD.te (tw_or (te_not (te_tru (PuD.vi (pu_callV hS (hr.mono (by decide)) (by rfl) (av_cons (PuD.vi (pu_meth mT (hr.mono (by first | decide | omega)) (pu_var (pv 0)) (ar_cons (pu_var (pv 4)) ar_nil))) (av_cons (PuD.vi (pu_var (pv 5))) av_nil)))) (fun _ => rfl))) (tw_or1 (te_cmp (con_notIn mI (hr.mono (by first | decide | omega))) r2_con (by with_unfolding_all rfl) (PuD.vi (pu_var (pv 4))) (PuD.vi (pu_var (pv 0))))))) (ss_one (sd_ret (pu_c pe_bl rfl))) ss_nil))) (ss_cons (sd_for PassesOwn.never rfl (it_seq (OwD.pu (ow_lst (ar_cons (pu_c pe_str (by decide +kernel)) (ar_cons (pu_c pe_str (by decide +kernel)) (ar_cons (pu_c pe_int rfl) (ar_cons (pu_c pe_non rfl) (ar_cons (OwD.pu (ow_lst (ar_cons (pu_ix (PuD.vi (pu_dg (hu_of hr) (PuD.vi (pu_var (pv 1))) (PuD.vi (pu_c pe_str (by decide +kernel))) (fun _ _ => rfl))) (PuD.vi (pu_c pe_int rfl)) (fun _ _ => rfl)) ar_nil))) (ar_cons (pu_tup ar_nil) (ar_cons pu_dnew (ar_cons (pu_c pe_bl rfl) (ar_cons (pu_ix (PuD.vi (pu_call hSp (hr.mono (by first | decide | omega)) (by rfl) (ar_cons (pu_var (pv 1)) ar_nil))) (PuD.vi (pu_c pe_int rfl)) (fun _ _ => rfl)) ar_nil)))))))))))) (tg_name (pg_name (i := 6) scShows.nd rfl (by first | exact Or.inl rfl | exact Or.inr rfl))) (ss_one (sd_if (te_cmp (con_in mI (hr.mono (by first | decide | omega))) r2_con (by with_unfolding_all rfl) (PuD.vi (pu_var (pv 6))) (PuD.vi (pu_var (pv 0)))) (ss_one (sd_ret (pu_c pe_bl rfl))) ss_nil))) (ss_cons (sd_for PassesOwn.never rfl (it_seq (pu_call hLe (hr.mono (by first | decide | omega)) (by rfl) (ar_cons (pu_var (pv 1)) ar_nil))) (tg_name (pg_name (i := 7) scShows.nd rfl (by first | exact Or.inl rfl | exact Or.inr rfl))) (ss_one (sd_if (TwD.te (tw_or (te_not (te_tru (PuD.vi (pu_meth mR (hr.mono (by first | decide | omega)) (pu_var (pv 0)) (ar_cons (pu_var (pv 7)) ar_nil))) (fun _ => rfl))) (tw_or1 (te_not (te_tru (PuD.vi (pu_meth mR (hr.mono (by first | decide | omega)) (pu_var (pv 0)) (ar_cons (OwD.pu (ow_cty (CallR.or call_list_of (call_list_dK rfl)) (R1O.or r1_lst r1_lstK) (by rfl) B.z_list (by decide +kernel) (av_cons (PuD.vi (pu_var (pv 7))) av_nil))) ar_nil))) (fun _ => rfl)))))) (ss_one (sd_ret (pu_c pe_bl rfl))) ss_nil))) (ss_one (sd_ret (pu_notT (PuD.vi (pu_cb (cr_any rfl) r1_any (by rfl) B.z_any (by decide +kernel) (av_cons (PuD.vi (OwD.pu (LcD.ow (lc0 [("_law_thing", 6)] (it_seq (pu_call hO (hr.mono (by first | decide | omega)) (by rfl) (ar_cons (pu_var (pv 1)) ar_nil))) (blkOk_by (N := nShows) (sc := defScope sShows) (by decide +kernel)) (fun _ _ _ _ _ => (tg_name (pg_name (i := 6) scShows.nd rfl (Or.inl rfl)))) (fun _ _ _ _ _ => (tw_name (by decide))) (fun _ _ _ _ _ => (pu_meth mR (hr.mono (by first | decide | omega)) (pu_var (pv 0)) (ar_cons (pu_var (pv 6)) ar_nil)))) rfl scShows.nd))) av_nil))))))))))⟩
abbrev sAlone : Stmt := top 31
abbrev nAlone : List Str := ["_law_columns", "_law_w", "_law_told", "_law_name", "_law_some", "_law_free", "_law_new", "_law_at", "_law_bent", "_law_other", "_law_turned"]
theorem scAlone : FnScope nAlone ["_law_columns", "_law_w"] (defScope sAlone) := ⟨rfl, rfl, rfl, by decide +kernel, rfl, by decide +kernel, by decide +kernel⟩
def FAlone (C : Addr) (gM : List D → Option (List Str × List D)) (gE : List D → Option D) : L2.Tr.Env → Option Out := (seqF (asgF (mapS (lcF [3, 4] (zipF (bin2 dgD (atP 1) (kD (.leaf (.str "names")))) (bin2 dgD (atP 1) (kD (.leaf (.str "values"))))) (tupT 2 (consT (setF 3) (consT (setF 4) nilT))) (asBF (bin2 (isN true) (atP 4) (kD (.leaf .non)))) (tupDisp (consD (atP 3) (consD (atP 4) nilD))))) (setF 2)) (seqF (par_pp 5 6 (app1 fFree (consD (atP 1) nilD)) (bin2 ixD (app1 fSpare (consD (atP 1) nilD)) (kD (.leaf (.int 0))))) (seqF (ifS (orB (notB (asBF (bin2 (eqOD false C gE) (atP 0) (app1 (mkD C gM) (consD (app1 tupD (consD (atP 2) nilD)) (consD (app1 tupD (consD (atP 5) nilD)) nilD)))))) (asBF (bin2 (eqOD true C gE) (atP 0) (app1 (mkD C gM) (consD (atP 2) (consD (atP 5) nilD)))))) (retF (kD (.leaf (.bl false)))) skipF) (seqF (forF (enumF (atP 2)) (tupT 2 (consT (setF 7) (consT (tupT 2 (consT (setF 3) (consT (setF 4) nilT))) nilT))) (seqF (asgF (bin2 addD (bin2 addD (orE (mapS (slF slO (atP 2) (fun _ => some none) (partF (atP 7)))) (slF slT (atP 2) (fun _ => some none) (partF (atP 7)))) (mapS (lstDisp (consD (tupDisp (consD (atP 3) (consD (bin2 addD (tupDisp (consD (atP 6) nilD)) (orE (mapS (slF slO (atP 4) (partF (kD (.leaf (.int 1)))) (fun _ => some none))) (slF slT (atP 4) (partF (kD (.leaf (.int 1)))) (fun _ => some none)))) nilD))) nilD)))) (orE (mapS (slF slO (atP 2) (partF (bin2 addD (atP 7) (kD (.leaf (.int 1))))) (fun _ => some none))) (slF slT (atP 2) (partF (bin2 addD (atP 7) (kD (.leaf (.int 1))))) (fun _ => some none)))) (setF 8)) (seqF (asgF (bin2 addD (bin2 addD (orE (mapS (slF slO (atP 2) (fun _ => some none) (partF (atP 7)))) (slF slT (atP 2) (fun _ => some none) (partF (atP 7)))) (mapS (lstDisp (consD (tupDisp (consD (atP 6) (consD (atP 4) nilD))) nilD)))) (orE (mapS (slF slO (atP 2) (partF (bin2 addD (atP 7) (kD (.leaf (.int 1))))) (fun _ => some none))) (slF slT (atP 2) (partF (bin2 addD (atP 7) (kD (.leaf (.int 1))))) (fun _ => some none)))) (setF 9)) (seqF (ifS (orB (asBF (bin2 (eqOD false C gE) (atP 0) (app1 (mkD C gM) (consD (atP 8) (consD (atP 5) nilD))))) (notB (asBF (bin2 (eqOD true C gE) (atP 0) (app1 (mkD C gM) (consD (atP 9) (consD (atP 5) nilD))))))) (retF (kD (.leaf (.bl false)))) skipF) (seqF (asgF (bin2 addD (bin2 addD (orE (mapS (slF slO (atP 2) (fun _ => some none) (partF (atP 7)))) (slF slT (atP 2) (fun _ => some none) (partF (atP 7)))) (mapS (lstDisp (consD (tupDisp (consD (atP 3) (consD (orE (mapS (revO (atP 4))) (revT (atP 4))) nilD))) nilD)))) (orE (mapS (slF slO (atP 2) (partF (bin2 addD (atP 7) (kD (.leaf (.int 1))))) (fun _ => some none))) (slF slT (atP 2) (partF (bin2 addD (atP 7) (kD (.leaf (.int 1))))) (fun _ => some none)))) (setF 10)) (ifS (asBF (bin2 (scD true) (bin2 (eqOD false C gE) (atP 0) (app1 (mkD C gM) (consD (atP 10) (consD (atP 5) nilD)))) (bin2 (scD false) (app1 lenA (consD (atP 4) nilD)) (kD (.leaf (.int 1)))))) (retF (kD (.leaf (.bl false)))) skipF)))))) (seqF (ifS (andB (asBF (bin2 (intI fun i j => .bl (decide (j < i))) (app1 lenA (consD (atP 2) nilD)) (kD (.leaf (.int 1))))) (asBF (bin2 (eqOD false C gE) (atP 0) (app1 (mkD C gM) (consD (orE (mapS (revO (atP 2))) (revT (atP 2))) (consD (atP 5) nilD)))))) (retF (kD (.leaf (.bl false)))) skipF) (seqF (ifS (orB (andB (asBF (bin2 (intI fun i j => .bl (decide (j < i))) (app1 lenA (consD (atP 5) nilD)) (kD (.leaf (.int 1))))) (asBF (bin2 (eqOD false C gE) (atP 0) (app1 (mkD C gM) (consD (atP 2) (consD (orE (mapS (revO (atP 5))) (revT (atP 5))) nilD)))))) (asBF (bin2 (eqOD false C gE) (app1 (mkD C gM) (consD (mapS (lstDisp nilD)) (consD (mapS (lstDisp (consD (atP 6) nilD))) nilD))) (app1 (mkD C gM) (consD (mapS (lstDisp (consD (tupDisp (consD (atP 6) (consD (mapS (lstDisp (consD (atP 6) nilD))) nilD))) nilD))) (consD (mapS (lstDisp nilD)) nilD)))))) (retF (kD (.leaf (.bl false)))) skipF) (retF (andF (notF (bin2 (eqOD false C gE) (atP 0) (bin2 dgD (atP 1) (kD (.leaf (.str "names")))))) (bin2 (eqOD true C gE) (atP 0) (kD (.leaf (.int 5))))))))))))
def fAlone (C : Addr) (gM : List D → Option (List Str × List D)) (gE : List D → Option D) (ds : List D) : Option D := if ds.length = (["_law_columns", "_law_w"] : List Str).length then runF nAlone.length (FAlone C gM gE ) ds else none
theorem okAlone {f : Addr} {fd : FuncData} (C : Addr) (gM : List D → Option (List Str × List D)) (gE : List D → Option D) (F : Fun K "_law_is_alone" "_law_is_alone" sAlone f fd) (B : TxB mg) (mk : Mkr P w K mg base "Columns" C 4 gM) (mE : Eqr P w K mg base C 1 gE) (hSp : Fn P w K mg base "_law_spare" 1 1 fSpare) (hF : Fn P w K mg base "_law_free_names" 1 1 fFree) : FnOk P w K mg base CX0 6 f fd ["_law_columns", "_law_w"] (spP (fAlone C gM gE )) :=
  ok_def (N := nAlone) (Φ := FAlone C gM gE ) F scAlone fun cdv A outer s H E hr => ⟨_, (ss_cons (sd_set (OwD.pu (LcD.ow (lcI [("_law_name", 3), ("_law_some", 4)] (it_zip (pu_dg (hu_of hr) (PuD.vi (pu_var (pv 1))) (PuD.vi (pu_c pe_str (by decide +kernel))) (fun _ _ => rfl)) (pu_dg (hu_of hr) (PuD.vi (pu_var (pv 1))) (PuD.vi (pu_c pe_str (by decide +kernel))) (fun _ _ => rfl)) (by rfl) B.z_zip) (blkOk_by (N := nAlone) (sc := defScope sAlone) (by decide +kernel)) (fun _ _ _ _ _ => (tg_tup rfl (tgs_cons (tg_name (pg_name (i := 3) scAlone.nd rfl (Or.inl rfl))) (tgs_cons (tg_name (pg_name (i := 4) scAlone.nd rfl (Or.inl rfl))) tgs_nil)))) (fun _ _ _ _ _ => (tw_tup (tws_cons mono_nm (tw_name (by decide)) (tws_cons mono_nm (tw_name (by decide)) tws_nil)))) (fun _ _ _ _ _ => (te_cmp op_notN r2_notN (nomark _) (PuD.vi (pu_var (pv 4))) (PuD.vi (pu_c pe_non rfl)))) (fun _ _ _ _ _ => (pu_tup (ar_cons (pu_var (pv 3)) (ar_cons (pu_var (pv 4)) ar_nil))))) rfl scAlone.nd)) (LcD.set (i := 2) (lcI [("_law_name", 3), ("_law_some", 4)] (it_zip (pu_dg (hu_of hr) (PuD.vi (pu_var (pv 1))) (PuD.vi (pu_c pe_str (by decide +kernel))) (fun _ _ => rfl)) (pu_dg (hu_of hr) (PuD.vi (pu_var (pv 1))) (PuD.vi (pu_c pe_str (by decide +kernel))) (fun _ _ => rfl)) (by rfl) B.z_zip) (blkOk_by (N := nAlone) (sc := defScope sAlone) (by decide +kernel)) (fun _ _ _ _ _ => (tg_tup rfl (tgs_cons (tg_name (pg_name (i := 3) scAlone.nd rfl (Or.inl rfl))) (tgs_cons (tg_name (pg_name (i := 4) scAlone.nd rfl (Or.inl rfl))) tgs_nil)))) (fun _ _ _ _ _ => (tw_tup (tws_cons mono_nm (tw_name (by decide)) (tws_cons mono_nm (tw_name (by decide)) tws_nil)))) (fun _ _ _ _ _ => (te_cmp op_notN r2_notN (nomark _) (PuD.vi (pu_var (pv 4))) (PuD.vi (pu_c pe_non rfl)))) (fun _ _ _ _ _ => (pu_tup (ar_cons (pu_var (pv 3)) (ar_cons (pu_var (pv 4)) ar_nil))))) rfl scAlone.nd rfl rfl (sw_true rfl rfl rfl (by decide +kernel)))) (ss_cons (sd_par_pp (pu_call hF (hr.mono (by first | decide | omega)) (by rfl) (ar_cons (pu_var (pv 1)) ar_nil)) (pu_ix (PuD.vi (pu_call hSp (hr.mono (by first | decide | omega)) (by rfl) (ar_cons (pu_var (pv 1)) ar_nil))) (PuD.vi (pu_c pe_int rfl)) (fun _ _ => rfl)) (by decide) (fun h => ps_par (i := 5) (j := 6) rfl scAlone.nd rfl rfl (by decide) rfl rfl h (by rfl))) (ss_cons (sd_if (TwD.te (tw_or (te_not (te_cmp (eqr_eq mE (hr.mono (by first | decide | omega))) r2_eqO (nomark _) (PuD.vi (pu_var (pv 0))) (PuD.vi (pu_make mk (hr.mono (by first | decide | omega)) (by rfl) (ar_cons (pu_cty call_tuple_of r1_tup (by rfl) B.z_tuple (by decide +kernel) (av_cons (PuD.vi (pu_var (pv 2))) av_nil)) (ar_cons (pu_cty call_tuple_of r1_tup (by rfl) B.z_tuple (by decide +kernel) (av_cons (PuD.vi (pu_var (pv 5))) av_nil)) ar_nil)))))) (tw_or1 (te_cmp (eqr_ne mE (hr.mono (by first | decide | omega))) r2_eqO (nomark _) (PuD.vi (pu_var (pv 0))) (PuD.vi (pu_make mk (hr.mono (by first | decide | omega)) (by rfl) (ar_cons (pu_var (pv 2)) (ar_cons (pu_var (pv 5)) ar_nil)))))))) (ss_one (sd_ret (pu_c pe_bl rfl))) ss_nil) (ss_cons (sd_for PassesOwn.never rfl (it_enum (pu_var (pv 2)) (by rfl) B.z_enumerate) (tg_tup rfl (tgs_cons (tg_name (pg_name (i := 7) scAlone.nd rfl (by first | exact Or.inl rfl | exact Or.inr rfl))) (tgs_cons (tg_tup rfl (tgs_cons (tg_name (pg_name (i := 3) scAlone.nd rfl (by first | exact Or.inl rfl | exact Or.inr rfl))) (tgs_cons (tg_name (pg_name (i := 4) scAlone.nd rfl (by first | exact Or.inl rfl | exact Or.inr rfl))) tgs_nil))) tgs_nil))) (ss_cons (sd_nm (pu_add (PuD.vi (pu_add (PuD.vi (PuD.or (OwD.pu (ow_sl (PuD.vi (pu_var (pv 2))) so_none (so_some (pu_var (pv 7))))) (pu_slT (PuD.vi (pu_var (pv 2))) so_none (so_some (pu_var (pv 7)))))) (PuD.vi (OwD.pu (ow_lst (ar_cons (pu_tup (ar_cons (pu_var (pv 3)) (ar_cons (pu_add (PuD.vi (pu_tup (ar_cons (pu_var (pv 6)) ar_nil))) (PuD.vi (PuD.or (OwD.pu (ow_sl (PuD.vi (pu_var (pv 4))) (so_some (pu_c pe_int rfl)) so_none)) (pu_slT (PuD.vi (pu_var (pv 4))) (so_some (pu_c pe_int rfl)) so_none)))) ar_nil))) ar_nil)))))) (PuD.vi (PuD.or (OwD.pu (ow_sl (PuD.vi (pu_var (pv 2))) (so_some (pu_add (PuD.vi (pu_var (pv 7))) (PuD.vi (pu_c pe_int rfl)))) so_none)) (pu_slT (PuD.vi (pu_var (pv 2))) (so_some (pu_add (PuD.vi (pu_var (pv 7))) (PuD.vi (pu_c pe_int rfl)))) so_none)))) (fun h => ps_set (i := 8) scAlone.nd rfl (by first | exact Or.inl rfl | exact Or.inr rfl) h)) (ss_cons (sd_nm (pu_add (PuD.vi (pu_add (PuD.vi (PuD.or (OwD.pu (ow_sl (PuD.vi (pu_var (pv 2))) so_none (so_some (pu_var (pv 7))))) (pu_slT (PuD.vi (pu_var (pv 2))) so_none (so_some (pu_var (pv 7)))))) (PuD.vi (OwD.pu (ow_lst (ar_cons (pu_tup (ar_cons (pu_var (pv 6)) (ar_cons (pu_var (pv 4)) ar_nil))) ar_nil)))))) (PuD.vi (PuD.or (OwD.pu (ow_sl (PuD.vi (pu_var (pv 2))) (so_some (pu_add (PuD.vi (pu_var (pv 7))) (PuD.vi (pu_c pe_int rfl)))) so_none)) (pu_slT (PuD.vi (pu_var (pv 2))) (so_some (pu_add (PuD.vi (pu_var (pv 7))) (PuD.vi (pu_c pe_int rfl)))) so_none)))) (fun h => ps_set (i := 9) scAlone.nd rfl (by first | exact Or.inl rfl | exact Or.inr rfl) h)) (ss_cons (sd_if (TwD.te (tw_or (te_cmp (eqr_eq mE (hr.mono (by first | decide | omega))) r2_eqO (nomark _) (PuD.vi (pu_var (pv 0))) (PuD.vi (pu_make mk (hr.mono (by first | decide | omega)) (by rfl) (ar_cons (pu_var (pv 8)) (ar_cons (pu_var (pv 5)) ar_nil))))) (tw_or1 (te_not (te_cmp (eqr_ne mE (hr.mono (by first | decide | omega))) r2_eqO (nomark _) (PuD.vi (pu_var (pv 0))) (PuD.vi (pu_make mk (hr.mono (by first | decide | omega)) (by rfl) (ar_cons (pu_var (pv 9)) (ar_cons (pu_var (pv 5)) ar_nil))))))))) (ss_one (sd_ret (pu_c pe_bl rfl))) ss_nil) (ss_cons (sd_nm (pu_add (PuD.vi (pu_add (PuD.vi (PuD.or (OwD.pu (ow_sl (PuD.vi (pu_var (pv 2))) so_none (so_some (pu_var (pv 7))))) (pu_slT (PuD.vi (pu_var (pv 2))) so_none (so_some (pu_var (pv 7)))))) (PuD.vi (OwD.pu (ow_lst (ar_cons (pu_tup (ar_cons (pu_var (pv 3)) (ar_cons (PuD.or (OwD.pu (ow_rev (PuD.vi (pu_var (pv 4))))) (pu_revT (PuD.vi (pu_var (pv 4))))) ar_nil))) ar_nil)))))) (PuD.vi (PuD.or (OwD.pu (ow_sl (PuD.vi (pu_var (pv 2))) (so_some (pu_add (PuD.vi (pu_var (pv 7))) (PuD.vi (pu_c pe_int rfl)))) so_none)) (pu_slT (PuD.vi (pu_var (pv 2))) (so_some (pu_add (PuD.vi (pu_var (pv 7))) (PuD.vi (pu_c pe_int rfl)))) so_none)))) (fun h => ps_set (i := 10) scAlone.nd rfl (by first | exact Or.inl rfl | exact Or.inr rfl) h)) (ss_one (sd_if (te_cmp op_ne r2_neS (nomark _) (PuD.vi (pu_cmp (eqr_eq mE (hr.mono (by first | decide | omega))) r2_eqO (nomark _) (PuD.vi (pu_var (pv 0))) (PuD.vi (pu_make mk (hr.mono (by first | decide | omega)) (by rfl) (ar_cons (pu_var (pv 10)) (ar_cons (pu_var (pv 5)) ar_nil)))))) (PuD.vi (pu_cmp op_eq r2_eqS (nomark _) (PuD.vi (pu_cb (CallR.or call_len call_lenD) (R1D.or r1_len r1_lenK) (by rfl) B.z_len (by decide +kernel) (av_cons (PuD.vi (pu_var (pv 4))) av_nil))) (PuD.vi (pu_c pe_int rfl))))) (ss_one (sd_ret (pu_c pe_bl rfl))) ss_nil))))))) (ss_cons (sd_if (TwD.te (tw_and (te_cmp op_gt (r2_I0 fun _ _ => rfl) (nomark _) (PuD.vi (pu_cb (CallR.or call_len call_lenD) (R1D.or r1_len r1_lenK) (by rfl) B.z_len (by decide +kernel) (av_cons (PuD.vi (pu_var (pv 2))) av_nil))) (PuD.vi (pu_c pe_int rfl))) (tw_and1 (te_cmp (eqr_eq mE (hr.mono (by first | decide | omega))) r2_eqO (nomark _) (PuD.vi (pu_var (pv 0))) (PuD.vi (pu_make mk (hr.mono (by first | decide | omega)) (by rfl) (ar_cons (PuD.or (OwD.pu (ow_rev (PuD.vi (pu_var (pv 2))))) (pu_revT (PuD.vi (pu_var (pv 2))))) (ar_cons (pu_var (pv 5)) ar_nil)))))))) (ss_one (sd_ret (pu_c pe_bl rfl))) ss_nil) (ss_cons (sd_if (TwD.te (tw_or (TwD.te (tw_and (te_cmp op_gt (r2_I0 fun _ _ => rfl) (nomark _) (PuD.vi (pu_cb (CallR.or call_len call_lenD) (R1D.or r1_len r1_lenK) (by rfl) B.z_len (by decide +kernel) (av_cons (PuD.vi (pu_var (pv 5))) av_nil))) (PuD.vi (pu_c pe_int rfl))) (tw_and1 (te_cmp (eqr_eq mE (hr.mono (by first | decide | omega))) r2_eqO (nomark _) (PuD.vi (pu_var (pv 0))) (PuD.vi (pu_make mk (hr.mono (by first | decide | omega)) (by rfl) (ar_cons (pu_var (pv 2)) (ar_cons (PuD.or (OwD.pu (ow_rev (PuD.vi (pu_var (pv 5))))) (pu_revT (PuD.vi (pu_var (pv 5))))) ar_nil)))))))) (tw_or1 (te_cmp (eqr_eq mE (hr.mono (by first | decide | omega))) r2_eqO (nomark _) (PuD.vi (pu_make mk (hr.mono (by first | decide | omega)) (by rfl) (ar_cons (OwD.pu (ow_lst ar_nil)) (ar_cons (OwD.pu (ow_lst (ar_cons (pu_var (pv 6)) ar_nil))) ar_nil)))) (PuD.vi (pu_make mk (hr.mono (by first | decide | omega)) (by rfl) (ar_cons (OwD.pu (ow_lst (ar_cons (pu_tup (ar_cons (pu_var (pv 6)) (ar_cons (OwD.pu (ow_lst (ar_cons (pu_var (pv 6)) ar_nil))) ar_nil))) ar_nil))) (ar_cons (OwD.pu (ow_lst ar_nil)) ar_nil)))))))) (ss_one (sd_ret (pu_c pe_bl rfl))) ss_nil) (ss_one (sd_ret (pu_andT (pu_notT (PuD.vi (pu_cmp (eqr_eq mE (hr.mono (by first | decide | omega))) r2_eqO (nomark _) (PuD.vi (pu_var (pv 0))) (PuD.vi (pu_dg (hu_of hr) (PuD.vi (pu_var (pv 1))) (PuD.vi (pu_c pe_str (by decide +kernel))) (fun _ _ => rfl)))))) (pu_one (pu_cmp (eqr_ne mE (hr.mono (by first | decide | omega))) r2_eqO (nomark _) (PuD.vi (pu_var (pv 0))) (PuD.vi (pu_c pe_int rfl)))))))))))))⟩
end
end L2.K1

namespace L2.K1
open PySem PySem.Spec PyProof.Rows L2.Tr
abbrev sD (x : Str) : D := .leaf (.str x)
def abc : Str := "abcdefghijklmnopqrstuvwxyz"
def isW (x : Str) : Bool := decide ((1 : Int) ≤ x.length) && (decide ((x.length : Int) ≤ 8) && x.cps.toList.all fun c => decide (c ∈ abc.cps.toList))
/-! statements -/
theorem seq_if_f {t : L2.Tr.Env → Option Bool} {Φa Φ : L2.Tr.Env → Option Out} {ρ : L2.Tr.Env} (h : t ρ = some false) : seqF (ifS t Φa skipF) Φ ρ = Φ ρ := by
  unfold seqF ifS
  rw [h]; rfl
theorem seq_if_t {t : L2.Tr.Env → Option Bool} {Φa Φ : L2.Tr.Env → Option Out} {ρ : L2.Tr.Env} {d : D} (h : t ρ = some true) (ha : Φa ρ = some (.rt d)) : seqF (ifS t Φa skipF) Φ ρ = some (.rt d) := by
  unfold seqF ifS
  rw [h, Option.bind_some, if_pos rfl, ha]; rfl
theorem seq_nx {Φ Ψ : L2.Tr.Env → Option Out} {ρ ρ2 : L2.Tr.Env} (h : Φ ρ = some (.nx ρ2)) : seqF Φ Ψ ρ = Ψ ρ2 := by
  unfold seqF
  rw [h]; rfl
theorem seq_rt {Φ Ψ : L2.Tr.Env → Option Out} {ρ : L2.Tr.Env} {d : D} (h : Φ ρ = some (.rt d)) : seqF Φ Ψ ρ = some (.rt d) := by
  unfold seqF
  rw [h]; rfl
theorem run_rt {n : Nat} {Φ : L2.Tr.Env → Option Out} {ds : List D} {d : D} (h : Φ (env0 n ds) = some (.rt d)) : runF n Φ ds = some d := by
  unfold runF
  rw [h]; rfl
theorem ret_f {φ : L2.Tr.Env → Option D} {ρ : L2.Tr.Env} {d : D} (h : φ ρ = some d) : retF φ ρ = some (.rt d) := by
  unfold retF
  rw [h]; rfl
theorem and_t {φ ψ : L2.Tr.Env → Option D} {ρ : L2.Tr.Env} (h : φ ρ = some (bD true)) : andF φ ψ ρ = ψ ρ := by
  unfold andF
  rw [h]; rfl
theorem and_f {φ ψ : L2.Tr.Env → Option D} {ρ : L2.Tr.Env} (h : φ ρ = some (bD false)) : andF φ ψ ρ = some (bD false) := by
  unfold andF
  rw [h]; rfl
theorem orB_f {χ ξ : L2.Tr.Env → Option Bool} {ρ : L2.Tr.Env} (h : χ ρ = some false) : orB χ ξ ρ = ξ ρ := by
  unfold orB
  rw [h]; rfl
theorem orB_t {χ ξ : L2.Tr.Env → Option Bool} {ρ : L2.Tr.Env} (h : χ ρ = some true) : orB χ ξ ρ = some true := by
  unfold orB
  rw [h]; rfl
theorem notB_ {χ : L2.Tr.Env → Option Bool} {ρ : L2.Tr.Env} {b : Bool} (h : χ ρ = some b) : notB χ ρ = some (!b) := by
  unfold notB
  rw [h]; rfl
theorem truB {φ : L2.Tr.Env → Option D} {ρ : L2.Tr.Env} {b : Bool} (h : φ ρ = some (bD b)) : truF φ ρ = some b := by
  unfold truF
  rw [h]; rfl
theorem asB_ {φ : L2.Tr.Env → Option D} {ρ : L2.Tr.Env} {b : Bool} (h : φ ρ = some (bD b)) : asBF φ ρ = some b := by
  unfold asBF
  rw [h]; rfl
theorem app_1 {β : Type} {op : List D → Option β} {φ : L2.Tr.Env → Option D} {ρ : L2.Tr.Env} {d : D} (h : φ ρ = some d) : app1 op (consD φ nilD) ρ = op [d] := by
  unfold app1 consD
  rw [h]; rfl
theorem app_2 {β : Type} {op : List D → Option β} {φ ψ : L2.Tr.Env → Option D} {ρ : L2.Tr.Env} {d e : D} (h : φ ρ = some d) (h2 : ψ ρ = some e) : app1 op (consD φ (consD ψ nilD)) ρ = op [d, e] := by
  unfold app1 consD
  rw [h, Option.bind_some, h2]; rfl
theorem bin_2 {β : Type} {op : D → D → Option β} {φ ψ : L2.Tr.Env → Option D} {ρ : L2.Tr.Env} {d e : D} (h : φ ρ = some d) (h2 : ψ ρ = some e) : bin2 op φ ψ ρ = op d e := by
  unfold bin2
  rw [h, Option.bind_some, h2]; rfl
theorem maps_ {ψ : L2.Tr.Env → Option (List D)} {ρ : L2.Tr.Env} {ds : List D} (h : ψ ρ = some ds) : mapS ψ ρ = some (.seq true ds) := by
  show (ψ ρ).map (D.seq true) = _
  rw [h]; rfl
/-! comprehensions that keep all, or some -/
theorem comp_map {θ : D → L2.Tr.Env → Option L2.Tr.Env} {χ : L2.Tr.Env → Option Bool} {φ : L2.Tr.Env → Option D} {ρ : L2.Tr.Env} {g : D → D} : ∀ {ds : List D}, (∀ d ∈ ds, ∃ ρ1, θ d ρ = some ρ1 ∧ χ ρ1 = some true ∧ φ ρ1 = some (g d)) → compF θ χ φ ds ρ = some (ds.map g)
  | [], _ => rfl
  | d :: ds, h => by
    obtain ⟨ρ1, h1, h2, h3⟩ := h d List.mem_cons_self
    unfold compF
    rw [h1, Option.bind_some, h2, Option.bind_some, if_pos rfl, h3, Option.bind_some, comp_map fun x hx => h x (List.mem_cons_of_mem _ hx)]
    rfl
theorem comp_flt {θ : D → L2.Tr.Env → Option L2.Tr.Env} {χ : L2.Tr.Env → Option Bool} {φ : L2.Tr.Env → Option D} {ρ : L2.Tr.Env} {p : D → Bool} {g : D → D} : ∀ {ds : List D}, (∀ d ∈ ds, ∃ ρ1, θ d ρ = some ρ1 ∧ χ ρ1 = some (p d) ∧ (p d = true → φ ρ1 = some (g d))) → compF θ χ φ ds ρ = some ((ds.filter p).map g)
  | [], _ => rfl
  | d :: ds, h => by
    obtain ⟨ρ1, h1, h2, h3⟩ := h d List.mem_cons_self
    unfold compF
    rw [h1, Option.bind_some, h2, Option.bind_some, comp_flt fun x hx => h x (List.mem_cons_of_mem _ hx), List.filter_cons]
    cases hp : p d with
    | true => rw [if_pos rfl, if_pos rfl, h3 hp]; rfl
    | false => rw [if_neg (by decide), if_neg (by decide)]
theorem bools_map : ∀ bs : List Bool, boolsOf (bs.map bD) = some bs
  | [] => rfl
  | b :: bs => by show (boolsOf (bs.map bD)).map (b :: ·) = _; rw [bools_map bs]; rfl
theorem all_map {α : Type} (f : α → Bool) (xs : List α) : allD [.seq true (xs.map fun x => bD (f x))] = some (bD (xs.all f)) := by
  show (boolsOf (xs.map fun x => bD (f x))).map (fun bs => bD (bs.all id)) = _
  have e : (xs.map fun x => bD (f x)) = (xs.map f).map bD := by rw [List.map_map]; rfl
  rw [e, bools_map]
  show some (bD ((xs.map f).all id)) = _
  rw [List.all_map]; rfl
theorem any_map {α : Type} (f : α → Bool) (xs : List α) : anyD [.seq true (xs.map fun x => bD (f x))] = some (bD (xs.any f)) := by
  show (boolsOf (xs.map fun x => bD (f x))).map (fun bs => bD (bs.any id)) = _
  have e : (xs.map fun x => bD (f x)) = (xs.map f).map bD := by rw [List.map_map]; rfl
  rw [e, bools_map]
  show some (bD ((xs.map f).any id)) = _
  rw [List.any_map]; rfl
/-! is_word -/
theorem w_str (x : Str) : fIsW [sD x] = some (bD (isW x)) := by
  have ev : fIsW [sD x] = (FIsW [.pu (sD x), .un]).bind fun o => match o with
    | .rt d => some d
    | .nx _ => some (.leaf .non)
    | _ => none := rfl
  rw [ev]
  have t0 : (orB (notB (truF (isF isStr (atP 0)))) (notB (asBF (chainF (intI fun i j => .bl (decide (i ≤ j))) (intI fun i j => .bl (decide (i ≤ j))) (kD (.leaf (.int 1))) (app1 lenA (consD (atP 0) nilD)) (kD (.leaf (.int 8))))))) [.pu (sD x), .un]
      = some (!(decide ((1 : Int) ≤ x.length) && decide ((x.length : Int) ≤ 8))) := by
    show (notB (asBF (chainF _ _ _ _ _))) [.pu (sD x), .un] = _
    show (Option.map (!·) ((((some (bD (decide ((1 : Int) ≤ x.length)))).bind asB).bind fun k => if k = true then (some (D.leaf (.int 8))).bind fun z => (intI fun i j => .bl (decide (i ≤ j))) (.leaf (.int x.length)) z else some (bD false)).bind asB)) = _
    cases decide ((1 : Int) ≤ x.length) <;> rfl
  have t1 : (retF (app1 allD (consD (mapS (lcF [1] (strsF (atP 0)) (setF 1) yesF (bin2 inSD (atP 1) (kD (.leaf (.str "abcdefghijklmnopqrstuvwxyz")))))) nilD))) [.pu (sD x), .un]
      = if x.cps.toList.length ≤ Lim then some (.rt (bD (x.cps.toList.all fun c => decide (c ∈ abc.cps.toList)))) else none := by
    have c1 : ((lcF [1] (strsF (atP 0)) (setF 1) yesF (bin2 inSD (atP 1) (kD (.leaf (.str "abcdefghijklmnopqrstuvwxyz")))))) [.pu (sD x), .un] = if x.cps.toList.length ≤ Lim then some (x.cps.toList.map fun c => bD (decide (c ∈ abc.cps.toList))) else none := by
      show (if (L2.Tr.signs x).length ≤ Lim then _ else none) = _
      have hl : (L2.Tr.signs x).length = x.cps.toList.length := by unfold L2.Tr.signs; rw [List.length_map]
      rw [hl]
      by_cases h : x.cps.toList.length ≤ Lim
      · rw [if_pos h, if_pos h]
        rw [comp_map (g := fun d => match d with
          | .leaf (.str u) => bD (decide (u.cps.getD 0 0 ∈ abc.cps.toList))
          | _ => bD false) fun d hd => ?_]
        · unfold L2.Tr.signs
          rw [List.map_map]
          rfl
        · unfold L2.Tr.signs at hd
          obtain ⟨c, hc, rfl⟩ := List.mem_map.mp hd
          exact ⟨_, rfl, rfl, rfl⟩
      · rw [if_neg h, if_neg h]
    show Option.map Out.rt ((((((lcF [1] (strsF (atP 0)) (setF 1) yesF (bin2 inSD (atP 1) (kD (.leaf (.str "abcdefghijklmnopqrstuvwxyz"))))) [.pu (sD x), .un]).map (D.seq true)).bind fun y => (some ([] : List D)).map (y :: ·))).bind allD) = _
    rw [c1]
    by_cases h : x.cps.toList.length ≤ Lim
    · rw [if_pos h, if_pos h]
      show Option.map Out.rt (allD [.seq true _]) = _
      rw [all_map]; rfl
    · rw [if_neg h, if_neg h]; rfl
  have sh : FIsW [.pu (sD x), .un] = if (!(decide ((1 : Int) ≤ x.length) && decide ((x.length : Int) ≤ 8))) = true then some (.rt (bD false)) else some (.rt (bD (x.cps.toList.all fun c => decide (c ∈ abc.cps.toList)))) := by
    show (((orB _ _) [.pu (sD x), .un]).bind fun k => if k = true then _ else _).bind _ = _
    rw [t0]
    by_cases h : (decide ((1 : Int) ≤ x.length) && decide ((x.length : Int) ≤ 8)) = true
    · rw [h]
      show (retF _) [.pu (sD x), .un] = _
      rw [t1]
      have hl : x.cps.toList.length ≤ Lim := by
        rw [Bool.and_eq_true, decide_eq_true_eq, decide_eq_true_eq] at h
        have e : x.length = x.cps.toList.length := by rw [Array.length_toList]; rfl
        have : Lim = 5000 := rfl
        omega
      rw [if_pos hl]; rfl
    · rw [Bool.not_eq_true] at h
      rw [h]; rfl
  rw [sh]
  unfold isW
  cases h1 : decide ((1 : Int) ≤ x.length) <;> cases h2 : decide ((x.length : Int) ≤ 8) <;> rfl
theorem w_non : fIsW [.leaf .non] = some (bD false) := rfl
theorem w_int (i : Int) : fIsW [.leaf (.int i)] = some (bD false) := rfl
theorem w_bl (i : Bool) : fIsW [.leaf (.bl i)] = some (bD false) := rfl
theorem w_seq (b : Bool) (ds : List D) : fIsW [.seq b ds] = some (bD false) := rfl
theorem w_dct (ks : List Key) (ds : List D) : fIsW [.dct ks ds] = some (bD false) := rfl
theorem l_seq (b : Bool) (ds : List D) : fIsL [.seq b ds] = some (bD true) := by cases b <;> rfl
theorem n_str (x : Str) : fIsN [sD x] = some (bD (isW x && decide (x ≠ "number"))) := by
  show (((fIsW [sD x]).bind fun y => (truD y).bind fun k => if k = true then (bin2 (scD true) (atP 0) (kD (.leaf (.str "number")))) [.pu (sD x)] else some y).map Out.rt).bind _ = _
  rw [w_str]
  cases isW x with
  | false => rfl
  | true =>
    show some (bD (xor true (decide (V.str x = V.str "number")))) = some (bD (decide (x ≠ "number")))
    congr 2
    by_cases h : x = "number"
    · subst h; rfl
    · rw [decide_eq_false (fun z => h (V.str.inj z)), decide_eq_true h]; rfl
end L2.K1

namespace L2.K1
open PySem PySem.Spec PyProof.Rows L2.Tr
/-! values, pairs, names: where they are good -/
structure Vals (xs : List Str) : Prop where
  lo : 1 ≤ xs.length
  hi : xs.length ≤ 3
  ws : ∀ x ∈ xs, isW x = true
  nd : xs.Nodup
structure Nm (x : Str) : Prop where
  w : isW x = true
  n : x ≠ "number"
theorem are_good {b : Bool} {xs : List Str} (h : Vals xs) : fAre [.seq b (xs.map sD)] = some (bD true) := by
  have hlen : (xs.map sD).length = xs.length := List.length_map ..
  have lA : (app1 lenA (consD (atP 0) nilD)) [.pu (.seq b (xs.map sD)), .un] = some (.leaf (.int xs.length)) := by
    show some (D.leaf (.int ((xs.map sD).length : Nat))) = _
    rw [hlen]
  have t0 : (orB (notB (truF (app1 fIsL (consD (atP 0) nilD)))) (notB (asBF (chainF (intI fun i j => .bl (decide (i ≤ j))) (intI fun i j => .bl (decide (i ≤ j))) (kD (.leaf (.int 1))) (app1 lenA (consD (atP 0) nilD)) (kD (.leaf (.int 3))))))) [.pu (.seq b (xs.map sD)), .un] = some false := by
    have a : (notB (truF (app1 fIsL (consD (atP 0) nilD)))) [.pu (.seq b (xs.map sD)), .un] = some false := by
      show Option.map (!·) ((fIsL [.seq b (xs.map sD)]).bind truD) = _
      rw [l_seq]; rfl
    unfold orB
    rw [a]
    show Option.map (!·) ((((some (D.leaf (.int 1))).bind fun x => ((app1 lenA (consD (atP 0) nilD)) [.pu (.seq b (xs.map sD)), .un]).bind fun y => (((intI fun i j => .bl (decide (i ≤ j))) x y).bind asB).bind fun k => if k = true then (some (D.leaf (.int 3))).bind fun z => (intI fun i j => .bl (decide (i ≤ j))) y z else some (bD false))).bind asB) = _
    rw [lA]
    show Option.map (!·) ((((some (bD (decide ((1 : Int) ≤ xs.length)))).bind asB).bind fun k => if k = true then some (bD (decide ((xs.length : Int) ≤ 3))) else some (bD false)).bind asB) = _
    rw [decide_eq_true (show (1 : Int) ≤ xs.length from by have := h.lo; omega), decide_eq_true (show (xs.length : Int) ≤ 3 from by have := h.hi; omega)]
    rfl
  have c1 : (lcF [1] (seqsF (atP 0)) (setF 1) yesF (app1 fIsW (consD (atP 1) nilD))) [.pu (.seq b (xs.map sD)), .un] = some (xs.map fun _ => bD true) := by
    show (if (xs.map sD).length ≤ Lim then compF _ _ _ (xs.map sD) _ else none) = _
    rw [if_pos (by rw [hlen]; have := h.hi; have : Lim = 5000 := rfl; omega)]
    rw [comp_map (g := fun _ => bD true) fun d hd => ?_, List.map_map]
    · rfl
    · obtain ⟨x, hx, rfl⟩ := List.mem_map.mp hd
      exact ⟨_, rfl, rfl, by show fIsW [sD x] = _; rw [w_str, h.ws x hx]⟩
  have ls : lenSF (atP 0) [.pu (.seq b (xs.map sD)), .un] = some (.leaf (.int xs.length)) := by
    show ((strsOf (xs.map sD)).bind fun ys => if ys.length ≤ 100 then some (D.leaf (.int (Vs.dcn ys ys.length))) else none) = _
    rw [L2.Tr.strs_map, Option.bind_some, if_pos (by have := h.hi; omega), (Vs.dcn_nodup (Nat.le_refl _)).mpr (by rw [List.take_length]; exact h.nd)]
  refine run_rt ?_
  show seqF _ _ [.pu (.seq b (xs.map sD)), .un] = _
  rw [seq_if_f t0]
  refine ret_f ?_
  rw [and_t, bin_2 ls lA]
  · show some (bD (xor false (decide (V.int xs.length = V.int xs.length)))) = _
    rw [decide_eq_true rfl]; rfl
  · rw [app_1 (maps_ c1), all_map (fun _ => true), List.all_eq_true.mpr fun _ _ => rfl]
theorem n_good {x : Str} (h : Nm x) : fIsN [sD x] = some (bD true) := by rw [n_str, h.w, decide_eq_true h.n]; rfl
theorem told_good {b b2 : Bool} {x : Str} {xs : List Str} (h1 : Nm x) (h2 : Vals xs) : fTold [.seq b [sD x, .seq b2 (xs.map sD)]] = some (bD true) := by
  show (Option.map Out.rt (((fIsL [.seq b [sD x, .seq b2 (xs.map sD)]]).bind fun y => (truD y).bind fun k => if k = true then (andF (bin2 (scD false) (app1 lenA (consD (atP 0) nilD)) (kD (.leaf (.int 2)))) (andF (app1 fIsN (consD (bin2 ixD (atP 0) (kD (.leaf (.int 0)))) nilD)) (app1 fAre (consD (bin2 ixD (atP 0) (kD (.leaf (.int 1)))) nilD)))) [.pu (.seq b [sD x, .seq b2 (xs.map sD)])] else some y))).bind _ = _
  rw [l_seq]
  show (Option.map Out.rt ((fIsN [sD x]).bind fun y => (truD y).bind fun k => if k = true then fAre [.seq b2 (xs.map sD)] else some y)).bind _ = _
  rw [n_good h1]
  show (Option.map Out.rt (fAre [.seq b2 (xs.map sD)])).bind _ = _
  rw [are_good h2]; rfl
/-! can_stand -/
theorem eqV_str (x y : Str) : eqV (.str x) (.str y) = decide (x = y) := by
  unfold eqV
  first | rfl | simp
theorem inV_str (x : Str) : ∀ xs : List Str, inV (.str x) (xs.map V.str) = decide (x ∈ xs)
  | [] => rfl
  | y :: ys => by
    have ih := inV_str x ys
    unfold inV at ih ⊢
    rw [List.map_cons, List.any_cons, ih, eqV_str]
    by_cases h : y = x
    · subst h; simp
    · have h2 : x ≠ y := fun z => h z.symm
      simp [h, h2]
theorem leaves_str (xs : List Str) : leaves (xs.map sD) = some (xs.map V.str) := by
  have : xs.map sD = (xs.map V.str).map D.leaf := by rw [List.map_map]; rfl
  rw [this, leaves_map]
theorem inD_str (neg b : Bool) (x : Str) (xs : List Str) : inD neg (sD x) (.seq b (xs.map sD)) = some (bD (xor neg (decide (x ∈ xs)))) := by
  show (leaves (xs.map sD)).map (fun vs => bD (xor neg (inV (.str x) vs))) = _
  rw [leaves_str]
  show some (bD (xor neg (inV (.str x) (xs.map V.str)))) = _
  rw [inV_str]
theorem can_bad {d v : D} (h : fIsW [d] = some (bD false)) : fCan [d, v] = some (bD false) := by
  show (Option.map Out.rt ((fIsW [d]).bind _)).bind _ = _
  rw [h]; rfl
theorem can_free (x : Str) : fCan [sD x, .leaf .non] = some (bD (isW x)) := by
  show (Option.map Out.rt ((fIsW [sD x]).bind fun y => (truD y).bind fun k => if k = true then some (bD true) else some y)).bind _ = _
  rw [w_str]
  cases isW x <;> rfl
theorem can_told (x : Str) (b : Bool) (xs : List Str) : fCan [sD x, .seq b (xs.map sD)] = some (bD (isW x && decide (x ∈ xs))) := by
  show (Option.map Out.rt ((fIsW [sD x]).bind fun y => (truD y).bind fun k => if k = true then inD false (sD x) (.seq b (xs.map sD)) else some y)).bind _ = _
  rw [w_str, inD_str, Bool.false_xor]
  cases isW x <;> rfl
end L2.K1

namespace L2.K1
open PySem PySem.Spec PyProof.Rows L2.Tr
/-! Columns(told, free) -/
def iB1 : L2.Tr.Env → Option Out := seqF (ifS (orB (asBF (bin2 (scD false) (atP 4) (kD (.leaf (.int 3))))) (orB (notB (truF (app1 fTold (consD (atP 5) nilD)))) (bin2 (dinB false) (bin2 ixD (atP 5) (kD (.leaf (.int 0)))) (atV 3)))) neverF skipF) (dputF 3 (bin2 ixD (atP 5) (kD (.leaf (.int 0)))) (app1 tupD (consD (bin2 ixD (atP 5) (kD (.leaf (.int 1)))) nilD)))
def iB2 : L2.Tr.Env → Option Out := seqF (asgF (bin2 addD (app1 lenA (consD (atP 1) nilD)) (atP 6)) (setF 4)) (seqF (ifS (orB (asBF (bin2 (scD false) (atP 4) (kD (.leaf (.int 3))))) (orB (asBF (bin2 (scD false) (atP 6) (kD (.leaf (.int 2))))) (orB (notB (truF (app1 fIsN (consD (atP 7) nilD)))) (bin2 (dinB false) (atP 7) (atV 3))))) neverF skipF) (dputF 3 (atP 7) (kD (.leaf .non))))
theorem memK_str (x : Str) : ∀ ns : List Str, memK (.inr x) (ns.map Sum.inr) = decide (x ∈ ns)
  | [] => rfl
  | n :: ns => by
    show (decide ((Sum.inr n : Key) = .inr x) || memK (.inr x) (ns.map Sum.inr)) = _
    rw [memK_str x ns]
    by_cases h : n = x
    · subst h; simp
    · have h2 : x ≠ n := fun z => h z.symm
      have h3 : ¬ (Sum.inr n : Key) = .inr x := fun z => h (Sum.inr.inj z)
      simp [h2, h3]
/-- a pair of a name and its values, lists or tuples -/
def PairIs (d : D) (p : Str × List Str) : Prop := ∃ b b2, d = .seq b [sD p.1, .seq b2 (p.2.map sD)]
structure Told (p : Str × List Str) : Prop where
  n : Nm p.1
  v : Vals p.2
def stI (o : D) (t f : D) (ns : List Str) (vs : List D) (s4 s5 s6 s7 : Sl) : L2.Tr.Env := [.ow o, .pu t, .pu f, .ow (.dct (ns.map Sum.inr) vs), s4, s5, s6, s7]
theorem snoc_map (ns : List Str) (x : Str) : ns.map (Sum.inr : Str → Key) ++ [.inr x] = (ns ++ [x]).map Sum.inr := by rw [List.map_append]; rfl
theorem b1_ok {o t f d : D} {ns : List Str} {vs : List D} {i : Nat} {p : Str × List Str} {s6 s7 : Sl} (hi : i < 3) (hd : PairIs d p) (hp : Told p) (hn : p.1 ∉ ns) (hv : vs.length < 1000) :
    iB1 (stI o t f ns vs (.pu (.leaf (.int i))) (.pu d) s6 s7) = some (.nx (stI o t f (ns ++ [p.1]) (vs ++ [.seq false (p.2.map sD)]) (.pu (.leaf (.int i))) (.pu d) s6 s7)) := by
  obtain ⟨b, b2, rfl⟩ := hd
  obtain ⟨x, xs⟩ := p
  unfold iB1
  rw [seq_if_f]
  · show ((some (D.leaf (.str x))).bind keyD).bind (fun k => if memK k (ns.map Sum.inr) = false ∧ vs.length < 1000 then some (Out.nx ((stI o t f ns vs _ _ s6 s7).set 3 (Sl.ow (.dct (ns.map Sum.inr ++ [k]) (vs ++ [.seq false (xs.map sD)]))))) else none) = _
    show (if memK (.inr x) (ns.map Sum.inr) = false ∧ vs.length < 1000 then some (Out.nx ((stI o t f ns vs _ _ s6 s7).set 3 (Sl.ow (.dct (ns.map Sum.inr ++ [.inr x]) (vs ++ [.seq false (xs.map sD)]))))) else none) = _
    rw [if_pos ⟨by rw [memK_str]; exact decide_eq_false hn, hv⟩, snoc_map]
    rfl
  · rw [orB_f, orB_f]
    · show some (xor false (memK (.inr x) (ns.map Sum.inr))) = _
      rw [memK_str, decide_eq_false hn]; rfl
    · rw [notB_ (b := true) (truB (by show fTold [.seq b [sD x, .seq b2 (xs.map sD)]] = _; exact told_good hp.n hp.v))]
      rfl
    · refine asB_ (b := false) ?_
      show some (bD (xor false (decide (V.int i = V.int 3)))) = _
      rw [decide_eq_false (fun z => by have := V.int.inj z; omega)]; rfl
theorem told_loop {o t f : D} {s6 s7 : Sl} : ∀ {ps : List (Str × List Str)} {ds : List D} {i : Nat} {ns : List Str} {vs : List D} {s4 s5 : Sl}, Paired PairIs ds ps → i + ps.length ≤ 3 → (∀ p ∈ ps, Told p) → (ns ++ ps.map (·.1)).Nodup → vs.length + ps.length < 1000 →
    ∃ t4 t5, loopF (tupT 2 (consT (setF 4) (consT (setF 5) nilT))) iB1 (enumL i ds) (stI o t f ns vs s4 s5 s6 s7) = some (.nx (stI o t f (ns ++ ps.map (·.1)) (vs ++ ps.map fun p => .seq false (p.2.map sD)) t4 t5 s6 s7))
  | [], ds, i, ns, vs, s4, s5, hd, _, _, _, _ => by
    cases hd
    exact ⟨s4, s5, by rw [List.map_nil, List.map_nil, List.append_nil, List.append_nil]; rfl⟩
  | p :: ps, ds, i, ns, vs, s4, s5, hd, hi, hg, hn, hv => by
    cases hd with
    | @cons d _ ds _ h1 h2 =>
      rw [List.length_cons] at hi hv
      rw [List.map_cons] at hn
      have hnp : p.1 ∉ ns := fun z => by
        have := (List.nodup_append.mp hn).2.2 _ z _ List.mem_cons_self
        exact this rfl
      have hn2 : ((ns ++ [p.1]) ++ ps.map (·.1)).Nodup := by rw [List.append_assoc]; exact hn
      obtain ⟨t4, t5, e⟩ := told_loop (o := o) (t := t) (f := f) (s6 := s6) (s7 := s7) (ps := ps) (ds := ds) (i := i + 1) (ns := ns ++ [p.1]) (vs := vs ++ [.seq false (p.2.map sD)]) (s4 := .pu (.leaf (.int i))) (s5 := .pu d) h2 (by omega) (fun q hq => hg q (List.mem_cons_of_mem _ hq)) hn2 (by rw [List.length_append, List.length_singleton]; omega)
      refine ⟨t4, t5, ?_⟩
      show ((iB1 (stI o t f ns vs (.pu (.leaf (.int i))) (.pu d) s6 s7)).bind fun o1 => match o1 with
        | .nx ρ2 => loopF (tupT 2 (consT (setF 4) (consT (setF 5) nilT))) iB1 (enumL (i + 1) ds) ρ2
        | .ct ρ2 => loopF (tupT 2 (consT (setF 4) (consT (setF 5) nilT))) iB1 (enumL (i + 1) ds) ρ2
        | .bk ρ2 => some (.nx ρ2)
        | .rt d => some (.rt d)) = _
      rw [b1_ok (by omega) h1 (hg p List.mem_cons_self) hnp (by omega)]
      show loopF _ _ _ _ = _
      rw [e, List.append_assoc, List.append_assoc]
      rfl
theorem b2_ok {o f : D} {bt : Bool} {td : List D} {ns : List Str} {vs : List D} {j : Nat} {x : Str} {s4 s5 : Sl} (hj : j < 2) (hl : td.length + j < 3) (hx : Nm x) (hn : x ∉ ns) (hv : vs.length < 1000) :
    iB2 (stI o (.seq bt td) f ns vs s4 s5 (.pu (.leaf (.int j))) (.pu (sD x))) = some (.nx (stI o (.seq bt td) f (ns ++ [x]) (vs ++ [.leaf .non]) (.pu (.leaf (.int (td.length + j)))) s5 (.pu (.leaf (.int j))) (.pu (sD x)))) := by
  unfold iB2
  rw [seq_nx (ρ2 := stI o (.seq bt td) f ns vs (.pu (.leaf (.int (td.length + j)))) s5 (.pu (.leaf (.int j))) (.pu (sD x)))]
  · rw [seq_if_f]
    · show (if memK (.inr x) (ns.map Sum.inr) = false ∧ vs.length < 1000 then some (Out.nx ((stI o (.seq bt td) f ns vs _ s5 _ _).set 3 (Sl.ow (.dct (ns.map Sum.inr ++ [.inr x]) (vs ++ [.leaf .non]))))) else none) = _
      rw [if_pos ⟨by rw [memK_str]; exact decide_eq_false hn, hv⟩, snoc_map]
      rfl
    · rw [orB_f, orB_f, orB_f]
      · show some (xor false (memK (.inr x) (ns.map Sum.inr))) = _
        rw [memK_str, decide_eq_false hn]; rfl
      · rw [notB_ (b := true) (truB (by show fIsN [sD x] = _; exact n_good hx))]
        rfl
      · refine asB_ (b := false) ?_
        show some (bD (xor false (decide (V.int j = V.int 2)))) = _
        rw [decide_eq_false (fun z => by have := V.int.inj z; omega)]; rfl
      · refine asB_ (b := false) ?_
        show some (bD (xor false (decide (V.int (td.length + j) = V.int 3)))) = _
        rw [decide_eq_false (fun z => by have := V.int.inj z; omega)]; rfl
  · rfl
theorem free_loop {o f : D} {bt : Bool} {td : List D} : ∀ {xs : List Str} {j : Nat} {ns : List Str} {vs : List D} {s4 s5 s6 s7 : Sl}, j + xs.length ≤ 2 → td.length + j + xs.length ≤ 3 → (∀ x ∈ xs, Nm x) → (ns ++ xs).Nodup → vs.length + xs.length < 1000 →
    ∃ t4 t6 t7, loopF (tupT 2 (consT (setF 6) (consT (setF 7) nilT))) iB2 (enumL j (xs.map sD)) (stI o (.seq bt td) f ns vs s4 s5 s6 s7) = some (.nx (stI o (.seq bt td) f (ns ++ xs) (vs ++ xs.map fun _ => .leaf .non) t4 s5 t6 t7))
  | [], j, ns, vs, s4, s5, s6, s7, _, _, _, _, _ => ⟨s4, s6, s7, by rw [List.map_nil, List.map_nil, List.append_nil, List.append_nil]; rfl⟩
  | x :: xs, j, ns, vs, s4, s5, s6, s7, hj, hl, hg, hn, hv => by
    rw [List.length_cons] at hj hl hv
    have hnp : x ∉ ns := fun z => by
      have := (List.nodup_append.mp hn).2.2 _ z _ List.mem_cons_self
      exact this rfl
    have hn2 : ((ns ++ [x]) ++ xs).Nodup := by rw [List.append_assoc]; exact hn
    obtain ⟨t4, t6, t7, e⟩ := free_loop (o := o) (f := f) (bt := bt) (td := td) (xs := xs) (j := j + 1) (ns := ns ++ [x]) (vs := vs ++ [.leaf .non]) (s4 := .pu (.leaf (.int (td.length + j)))) (s5 := s5) (s6 := .pu (.leaf (.int j))) (s7 := .pu (sD x)) (by omega) (by omega) (fun q hq => hg q (List.mem_cons_of_mem _ hq)) hn2 (by rw [List.length_append, List.length_singleton]; omega)
    refine ⟨t4, t6, t7, ?_⟩
    show ((iB2 (stI o (.seq bt td) f ns vs s4 s5 (.pu (.leaf (.int j))) (.pu (sD x)))).bind fun o1 => match o1 with
      | .nx ρ2 => loopF (tupT 2 (consT (setF 6) (consT (setF 7) nilT))) iB2 (enumL (j + 1) (xs.map sD)) ρ2
      | .ct ρ2 => loopF (tupT 2 (consT (setF 6) (consT (setF 7) nilT))) iB2 (enumL (j + 1) (xs.map sD)) ρ2
      | .bk ρ2 => some (.nx ρ2)
      | .rt d => some (.rt d)) = _
    rw [b2_ok (by omega) (by omega) (hg x List.mem_cons_self) hnp (by omega)]
    show loopF _ _ _ _ = _
    rw [e, List.append_assoc, List.append_assoc]
    rfl
/-- the columns of told pairs and free names -/
def colV (C : Addr) (ps : List (Str × List Str)) (xs : List Str) : D := .obj C ["_values"] [.dct ((ps.map (·.1) ++ xs).map Sum.inr) ((ps.map fun p => .seq false (p.2.map sD)) ++ xs.map fun _ => .leaf .non)]
structure Cols (ps : List (Str × List Str)) (xs : List Str) : Prop where
  t : ∀ p ∈ ps, Told p
  f : ∀ x ∈ xs, Nm x
  nd : (ps.map (·.1) ++ xs).Nodup
  l3 : ps.length + xs.length ≤ 3
  l2 : xs.length ≤ 2
  l1 : 1 ≤ ps.length + xs.length
theorem init_ok {C : Addr} {bt bf : Bool} {ds : List D} {ps : List (Str × List Str)} {xs : List Str} (h : Cols ps xs) (hd : Paired PairIs ds ps) : (fInit C [.seq bt ds, .seq bf (xs.map sD)]).map (fun r => D.obj C r.1 r.2) = some (colV C ps xs) := by
  have hl := Paired.length hd
  have l1 := h.l1
  have l2 := h.l2
  have l3 := h.l3
  obtain ⟨t4, t5, e1⟩ := told_loop (o := .obj C [] []) (t := .seq bt ds) (f := .seq bf (xs.map sD)) (s6 := .un) (s7 := .un) (ps := ps) (ds := ds) (i := 0) (ns := []) (vs := []) (s4 := .un) (s5 := .un) hd (by omega) h.t (by rw [List.nil_append]; exact (List.nodup_append.mp h.nd).1) (by rw [List.length_nil]; omega)
  rw [List.nil_append, List.nil_append] at e1
  obtain ⟨u4, u6, u7, e2⟩ := free_loop (o := .obj C [] []) (f := .seq bf (xs.map sD)) (bt := bt) (td := ds) (xs := xs) (j := 0) (ns := ps.map (·.1)) (vs := ps.map fun p => .seq false (p.2.map sD)) (s4 := t4) (s5 := t5) (s6 := .un) (s7 := .un) (by omega) (by omega) h.f h.nd (by rw [List.length_map]; omega)
  have e : FInit C (envI 8 C [.seq bt ds, .seq bf (xs.map sD)]) = some (.nx [.ow (.obj C ["_values"] [.dct ((ps.map (·.1) ++ xs).map Sum.inr) ((ps.map fun p => .seq false (p.2.map sD)) ++ xs.map fun _ => .leaf .non)]), .pu (.seq bt ds), .pu (.seq bf (xs.map sD)), .pu (.dct ((ps.map (·.1) ++ xs).map Sum.inr) ((ps.map fun p => .seq false (p.2.map sD)) ++ xs.map fun _ => .leaf .non)), u4, t5, u6, u7]) := by
    unfold FInit
    rw [seq_nx (ρ2 := stI (.obj C [] []) (.seq bt ds) (.seq bf (xs.map sD)) [] [] .un .un .un .un) rfl]
    refine (seq_nx (ρ2 := stI (.obj C [] []) (.seq bt ds) (.seq bf (xs.map sD)) (ps.map (·.1)) (ps.map fun p => .seq false (p.2.map sD)) t4 t5 .un .un) (by exact e1)).trans ?_
    refine (seq_nx (ρ2 := stI (.obj C [] []) (.seq bt ds) (.seq bf (xs.map sD)) (ps.map (·.1) ++ xs) ((ps.map fun p => .seq false (p.2.map sD)) ++ xs.map fun _ => .leaf .non) u4 t5 u6 u7) (by exact e2)).trans ?_
    rw [seq_if_f]
    · show (if C = C ∧ 0 < 100 then _ else none) = _
      rw [if_pos ⟨rfl, by decide⟩]
      rfl
    · refine notB_ (b := true) ?_
      show some (!((ps.map fun p => D.seq false (p.2.map sD)) ++ xs.map fun _ => D.leaf .non).isEmpty) = _
      cases ps with
      | cons p ps => rfl
      | nil =>
        cases xs with
        | cons x xs => rfl
        | nil => simp at l1
  show Option.map _ ((FInit C (envI 8 C [.seq bt ds, .seq bf (xs.map sD)])).bind _) = _
  rw [e]
  show Option.map _ (if C = C then _ else none) = _
  rw [if_pos rfl]
  rfl
end L2.K1

namespace L2.K1
open PySem PySem.Spec PyProof.Rows L2.Tr
/-! what columns can do -/
def keysOf (ps : List (Str × List Str)) (xs : List Str) : List Str := ps.map (·.1) ++ xs
def valsOf (ps : List (Str × List Str)) (xs : List Str) : List D := (ps.map fun p => D.seq false (p.2.map sD)) ++ xs.map fun _ => D.leaf .non
theorem keys_len {ps : List (Str × List Str)} {xs : List Str} : (keysOf ps xs).length = ps.length + xs.length := by unfold keysOf; rw [List.length_append, List.length_map]
theorem vals_len {ps : List (Str × List Str)} {xs : List Str} : (valsOf ps xs).length = ps.length + xs.length := by unfold valsOf; rw [List.length_append, List.length_map, List.length_map]
theorem Cols.nm {ps : List (Str × List Str)} {xs : List Str} (h : Cols ps xs) : ∀ x ∈ keysOf ps xs, Nm x := fun x hx => by
  rcases List.mem_append.mp hx with q | q
  · obtain ⟨p, hp, rfl⟩ := List.mem_map.mp q
    exact (h.t p hp).n
  · exact h.f x q
theorem isW_len {x : Str} (h : isW x = true) : x.length ≤ 8 := by
  unfold isW at h
  rw [Bool.and_eq_true, Bool.and_eq_true] at h
  have := of_decide_eq_true h.2.1
  omega
theorem ok_keys {C : Addr} {ps : List (Str × List Str)} {xs : List Str} (h : Cols ps xs) : ((keysOf ps xs).map (Sum.inr : Str → Key)).all okKey = true := by
  rw [List.all_eq_true]
  intro k hk
  obtain ⟨x, hx, rfl⟩ := List.mem_map.mp hk
  exact decide_eq_true (by have := isW_len (h.nm x hx).w; omega)
theorem names_ok {C : Addr} {ps : List (Str × List Str)} {xs : List Str} (h : Cols ps xs) : fNames C [colV C ps xs] = some ((keysOf ps xs).map sD) := by
  show (app1 lstA (consD (fldF C "_values" (atP 0)) nilD)) [.pu (colV C ps xs)] = _
  rw [app_1 (d := .dct ((keysOf ps xs).map Sum.inr) (valsOf ps xs))]
  · show (lstK [.dct ((keysOf ps xs).map Sum.inr) (valsOf ps xs)]) = _
    show (if ((keysOf ps xs).map (Sum.inr : Str → Key)).all okKey = true then some (((keysOf ps xs).map (Sum.inr : Str → Key)).map keyV) else none) = _
    rw [if_pos (ok_keys (C := C) h), List.map_map]
    rfl
  · show (if C = C then getS ["_values"] [_] "_values" else none) = _
    rw [if_pos rfl]
    rfl
theorem fld_ok {C : Addr} {ps : List (Str × List Str)} {xs : List Str} {ρ : L2.Tr.Env} {i : Nat} (h : ρ[i]? = some (.pu (colV C ps xs))) : fldF C "_values" (atP i) ρ = some (.dct ((keysOf ps xs).map Sum.inr) (valsOf ps xs)) := by
  unfold fldF atP
  rw [h]
  show (if C = C then getS ["_values"] [_] "_values" else none) = _
  rw [if_pos rfl]
  rfl
theorem len_ok {C : Addr} {ps : List (Str × List Str)} {xs : List Str} : fLen C [colV C ps xs] = some (.leaf (.int (keysOf ps xs).length)) := by
  refine run_rt (ret_f ?_)
  show (app1 lenA (consD (fldF C "_values" (atP 0)) nilD)) [.pu (colV C ps xs)] = _
  rw [app_1 (fld_ok rfl)]
  show some (D.leaf (.int (valsOf ps xs).length)) = _
  rw [vals_len, keys_len]
theorem in_str {C : Addr} {ps : List (Str × List Str)} {xs : List Str} (x : Str) : fIn C [colV C ps xs, sD x] = some (bD (decide (x ∈ keysOf ps xs))) := by
  refine run_rt (ret_f ?_)
  show (andF (isF isStr (atP 1)) (dinV (atP 1) (fldF C "_values" (atP 0)))) [.pu (colV C ps xs), .pu (sD x)] = _
  rw [and_t rfl]
  show (bin2 (dinB false) (atP 1) (fldF C "_values" (atP 0)) [.pu (colV C ps xs), .pu (sD x)]).map bD = _
  rw [bin_2 (d := sD x) rfl (fld_ok rfl)]
  show some (bD (xor false (memK (.inr x) ((keysOf ps xs).map Sum.inr)))) = _
  rw [memK_str, Bool.false_xor]
theorem in_bad {C : Addr} {o d : D} (h : isStr d = some false) : fIn C [o, d] = some (bD false) := by
  refine run_rt (ret_f ?_)
  show (andF (isF isStr (atP 1)) (dinV (atP 1) (fldF C "_values" (atP 0)))) [.pu o, .pu d] = _
  refine and_f ?_
  show ((some d).bind isStr).map bD = _
  rw [Option.bind_some, h]; rfl
theorem getK_app {k : Key} : ∀ {ks : List Key} {vs : List D} {i : Nat} {v : D}, ks.Nodup → ks[i]? = some k → vs[i]? = some v → getK ks vs k = some v
  | [], vs, i, v, _, h, _ => by simp at h
  | k0 :: ks, [], i, v, _, _, h => by simp at h
  | k0 :: ks, v0 :: vs, 0, v, _, h1, h2 => by
    cases h1; cases h2
    exact if_pos rfl
  | k0 :: ks, v0 :: vs, i + 1, v, hn, h1, h2 => by
    have h1 : ks[i]? = some k := by simpa using h1
    have h2 : vs[i]? = some v := by simpa using h2
    have hne : ¬ k0 = k := fun z => (List.nodup_cons.mp hn).1 (z ▸ List.mem_of_getElem? h1)
    show (if k0 = k then some v0 else getK ks vs k) = _
    rw [if_neg hne]
    exact getK_app (List.nodup_cons.mp hn).2 h1 h2
theorem nodup_inr {xs : List Str} (h : xs.Nodup) : (xs.map (Sum.inr : Str → Key)).Nodup := by
  induction xs with
  | nil => exact List.nodup_nil
  | cons x xs ih =>
    rw [List.map_cons, List.nodup_cons]
    obtain ⟨h1, h2⟩ := List.nodup_cons.mp h
    refine ⟨fun z => ?_, ih h2⟩
    obtain ⟨y, hy, e⟩ := List.mem_map.mp z
    exact h1 (Sum.inr.inj e ▸ hy)
theorem tv_ok {C : Addr} {ps : List (Str × List Str)} {xs : List Str} (h : Cols ps xs) {i : Nat} {x : Str} {v : D} (h1 : (keysOf ps xs)[i]? = some x) (h2 : (valsOf ps xs)[i]? = some v) : fTV C [colV C ps xs, sD x] = some v := by
  refine run_rt ?_
  show seqF _ _ [.pu (colV C ps xs), .pu (sD x)] = _
  rw [seq_if_f]
  · refine ret_f ?_
    rw [bin_2 (fld_ok rfl) (e := sD x) rfl]
    show getK ((keysOf ps xs).map Sum.inr) (valsOf ps xs) (.inr x) = _
    exact getK_app (nodup_inr h.nd) (by rw [List.getElem?_map, h1]; rfl) h2
  · refine asB_ (b := false) ?_
    rw [bin_2 (d := sD x) (e := colV C ps xs) rfl rfl]
    show (if C = C then ((fIn C [colV C ps xs, sD x]).bind asB).map fun b => bD (true != b) else none) = _
    rw [if_pos rfl, in_str, decide_eq_true (List.mem_of_getElem? h1)]
    rfl
/-! is_row -/
theorem row_bad {C : Addr} {o d : D} (h : fIsL [d] = some (bD false)) : fIsRow C [o, d] = some (bD false) := by
  refine run_rt ?_
  show seqF _ _ [.pu o, .pu d, .un, .un] = _
  exact seq_if_t (orB_t (notB_ (b := false) (truB (by show fIsL [d] = _; exact h)))) rfl
theorem row_len {C : Addr} {ps : List (Str × List Str)} {xs : List Str} {b : Bool} {ds : List D} (h : ds.length ≠ (keysOf ps xs).length) : fIsRow C [colV C ps xs, .seq b ds] = some (bD false) := by
  refine run_rt ?_
  show seqF _ _ [.pu (colV C ps xs), .pu (.seq b ds), .un, .un] = _
  refine seq_if_t ?_ rfl
  rw [orB_f]
  · refine asB_ (b := true) ?_
    rw [bin_2 (d := .leaf (.int ds.length)) (e := .leaf (.int (keysOf ps xs).length)) (by rfl)]
    · show some (bD (xor true (decide (V.int ds.length = V.int (keysOf ps xs).length)))) = _
      rw [decide_eq_false (fun z => h (by have := V.int.inj z; omega))]; rfl
    · rw [app_1 (fld_ok rfl)]
      show some (D.leaf (.int (valsOf ps xs).length)) = _
      rw [vals_len, keys_len]
  · rw [notB_ (b := true) (truB (by show fIsL [.seq b ds] = _; exact l_seq b ds))]
    rfl
theorem plain_strs : ∀ xs : List Str, plainDs (xs.map sD) = true
  | [] => rfl
  | x :: xs => by show (true && plainDs (xs.map sD)) = true; rw [plain_strs xs]; rfl
theorem plain_app : ∀ {as bs : List D}, plainDs as = true → plainDs bs = true → plainDs (as ++ bs) = true
  | [], bs, _, h => h
  | a :: as, bs, h1, h2 => by
    have h1 : (plainD a && plainDs as) = true := h1
    rw [Bool.and_eq_true] at h1
    show (plainD a && plainDs (as ++ bs)) = true
    rw [h1.1, plain_app h1.2 h2]; rfl
theorem plain_vals {ps : List (Str × List Str)} {xs : List Str} : plainDs (valsOf ps xs) = true := by
  refine plain_app ?_ ?_
  · induction ps with
    | nil => rfl
    | cons p ps ih => show (plainDs (p.2.map sD) && plainDs _) = true; rw [plain_strs, ih]; rfl
  · induction xs with
    | nil => rfl
    | cons p ps ih => show (true && plainDs _) = true; rw [ih]; rfl
theorem row_ok {C : Addr} {ps : List (Str × List Str)} {xs : List Str} {b : Bool} {ds : List D} {c : D × D → Bool} (hl : ds.length = (keysOf ps xs).length) (h3 : ds.length ≤ 3) (hp : plainDs ds = true) (hc : ∀ q ∈ (valsOf ps xs).zip ds, fCan [q.2, q.1] = some (bD (c q))) :
    fIsRow C [colV C ps xs, .seq b ds] = some (bD (((valsOf ps xs).zip ds).all c)) := by
  refine run_rt ?_
  show seqF _ _ [.pu (colV C ps xs), .pu (.seq b ds), .un, .un] = _
  rw [seq_if_f]
  · refine ret_f ?_
    have hz : (zipL (valsOf ps xs) ds).length ≤ Lim := by rw [zip_len]; have : Lim = 5000 := rfl; omega
    have cu : cutE [.pu (colV C ps xs), .pu (.seq b ds), .un, .un] = [.un, .pu (.seq b ds), .un, .un] := by
      show [_, (if plainDs ds = true then Sl.pu (.seq b ds) else .un), _, _] = _
      rw [if_pos hp]; rfl
    show ((if C = C then getS ["_values"] [D.dct ((keysOf ps xs).map Sum.inr) (valsOf ps xs)] "_values" else none).bind fun d => match d with
      | .dct ks ws => if plainDs ws = true then ((atP 1) (cutE [.pu (colV C ps xs), .pu (.seq b ds), .un, .un])).bind fun y => match y with
        | .seq _ ys => if (zipL ws ys).length ≤ Lim then (compF (tupT 2 (consT (setF 2) (consT (setF 3) nilT))) yesF (app1 fCan (consD (atP 3) (consD (atP 2) nilD))) (zipL ws ys) (wipeE (cutE [.pu (colV C ps xs), .pu (.seq b ds), .un, .un]) [2, 3])).bind fun zs => (boolsOf zs).map fun bs => bD (bs.all id) else none
        | _ => none
        else none
      | _ => none) = _
    rw [if_pos rfl, cu]
    show (if plainDs (valsOf ps xs) = true then (some (D.seq b ds)).bind _ else none) = _
    rw [if_pos plain_vals]
    show (if (zipL (valsOf ps xs) ds).length ≤ Lim then _ else none) = _
    rw [if_pos hz, show zipL (valsOf ps xs) ds = ((valsOf ps xs).zip ds).map fun p => .seq false [p.1, p.2] from rfl]
    rw [comp_map (g := fun d => match d with
      | .seq false [v, x] => bD (c (v, x))
      | _ => bD false) fun d hd => ?_]
    · rw [List.map_map]
      exact all_map c _
    · obtain ⟨⟨v, x⟩, hq, rfl⟩ := List.mem_map.mp hd
      refine ⟨[.un, .pu (.seq b ds), .pu v, .pu x], rfl, rfl, ?_⟩
      rw [app_2 (d := x) (e := v) rfl rfl]
      exact hc (v, x) hq
  · rw [orB_f]
    · refine asB_ (b := false) ?_
      rw [bin_2 (d := .leaf (.int ds.length)) (e := .leaf (.int (keysOf ps xs).length)) (by rfl)]
      · show some (bD (xor true (decide (V.int ds.length = V.int (keysOf ps xs).length)))) = _
        rw [decide_eq_true (by rw [hl])]; rfl
      · rw [app_1 (fld_ok rfl)]
        show some (D.leaf (.int (valsOf ps xs).length)) = _
        rw [vals_len, keys_len]
    · rw [notB_ (b := true) (truB (by show fIsL [.seq b ds] = _; exact l_seq b ds))]
      rfl
end L2.K1

namespace L2.K1
open PySem PySem.Spec PyProof.Rows L2.Tr
/-! == of columns -/
abbrev Col := Str × Option (List Str)
def vD : Option (List Str) → D
  | none => .leaf .non
  | some xs => .seq false (xs.map sD)
def csOf (ps : List (Str × List Str)) (xs : List Str) : List Col := (ps.map fun p => (p.1, some p.2)) ++ xs.map fun x => (x, none)
def itemD (c : Col) : D := .seq false [sD c.1, vD c.2]
theorem items_of {ps : List (Str × List Str)} {xs : List Str} : (((keysOf ps xs).map (Sum.inr : Str → Key)).zip (valsOf ps xs)).map (fun p => D.seq false [keyV p.1, p.2]) = (csOf ps xs).map itemD := by
  unfold keysOf valsOf csOf
  rw [List.map_append, List.zip_append (by rw [List.length_map, List.length_map, List.length_map]), List.map_append, List.map_append]
  congr 1
  · induction ps with
    | nil => rfl
    | cons p ps ih => rw [List.map_cons, List.map_cons, List.map_cons, List.zip_cons_cons, List.map_cons, List.map_cons, List.map_cons, ih]; rfl
  · induction xs with
    | nil => rfl
    | cons p ps ih => rw [List.map_cons, List.map_cons, List.zip_cons_cons, List.map_cons, List.map_cons, List.map_cons, ih]; rfl
def valP : Option (List Str) → PyData
  | none => .none
  | some xs => .tuple (xs.map .str)
def itemP (c : Col) : PyData := .tuple [.str c.1, valP c.2]
theorem pyDs_str : ∀ xs : List Str, pyDs (xs.map sD) = some (xs.map .str)
  | [] => by simp [pyDs]
  | x :: xs => by rw [List.map_cons, pyDs, pyDs_str xs]; simp [pyD]
theorem pyD_val : ∀ o : Option (List Str), pyD (vD o) = some (valP o)
  | none => by simp [vD, valP, pyD]
  | some xs => by
    show pyD (.seq false (xs.map sD)) = some (.tuple (xs.map .str))
    rw [pyD, pyDs_str]; rfl
theorem pyD_item (c : Col) : pyD (itemD c) = some (itemP c) := by
  show pyD (.seq false [sD c.1, vD c.2]) = some (.tuple [.str c.1, valP c.2])
  rw [pyD, pyDs, pyDs, pyDs, pyD_val]
  simp [pyD]
theorem pyD_items : ∀ cs : List Col, pyDs (cs.map itemD) = some (cs.map itemP)
  | [] => by simp [pyDs]
  | c :: cs => by rw [List.map_cons, pyDs, pyDs_items' cs, pyD_item]; rfl
where pyDs_items' : ∀ cs : List Col, pyDs (cs.map itemD) = some (cs.map itemP)
  | [] => by simp [pyDs]
  | c :: cs => by rw [List.map_cons, pyDs, pyDs_items' cs, pyD_item]; rfl
theorem eqv_strs : ∀ xs ys : List Str, PyData.eqvAll (xs.map .str) (ys.map .str) = decide (xs = ys)
  | [], [] => rfl
  | [], y :: ys => rfl
  | x :: xs, [] => rfl
  | x :: xs, y :: ys => by
    rw [List.map_cons, List.map_cons, PyData.eqvAll, eqv_strs xs ys, PyData.eqv]
    by_cases h1 : x = y <;> by_cases h2 : xs = ys <;> simp [h1, h2]
theorem eqv_val : ∀ a b : Option (List Str), PyData.eqv (valP a) (valP b) = decide (a = b)
  | none, none => rfl
  | none, some _ => rfl
  | some _, none => rfl
  | some xs, some ys => by
    show PyData.eqv (.tuple (xs.map .str)) (.tuple (ys.map .str)) = _
    rw [PyData.eqv, eqv_strs]
    by_cases h : xs = ys <;> simp [h]
theorem eqv_items : ∀ cs ds : List Col, PyData.eqvAll (cs.map itemP) (ds.map itemP) = decide (cs = ds)
  | [], [] => rfl
  | [], y :: ys => rfl
  | x :: xs, [] => rfl
  | x :: xs, y :: ys => by
    rw [List.map_cons, List.map_cons, PyData.eqvAll, eqv_items xs ys]
    show (PyData.eqv (.tuple [.str x.1, valP x.2]) (.tuple [.str y.1, valP y.2]) && _) = _
    rw [PyData.eqv, PyData.eqvAll, PyData.eqvAll, PyData.eqvAll, PyData.eqv, eqv_val]
    obtain ⟨x1, x2⟩ := x
    obtain ⟨y1, y2⟩ := y
    by_cases h1 : x1 = y1 <;> by_cases h2 : x2 = y2 <;> by_cases h3 : xs = ys <;> simp [h1, h2, h3]
theorem isW_ok {x : Str} (h : isW x = true) : PyData.strOk x = true := by
  unfold isW at h
  rw [Bool.and_eq_true, Bool.and_eq_true, List.all_eq_true] at h
  have abc_lo : ∀ c ∈ abc.cps.toList, c < 0x110000 := by decide +kernel
  unfold PyData.strOk
  rw [← Array.all_toList, List.all_eq_true]
  exact fun c hc => decide_eq_true (abc_lo c (of_decide_eq_true (h.2.2 c hc)))
theorem lay_strs : ∀ {xs : List Str}, (∀ x ∈ xs, isW x = true) → PyData.canLayAll0 (xs.map .str) = true ∧ PyData.depthAll (xs.map .str) = 0
  | [], _ => ⟨rfl, rfl⟩
  | x :: xs, h => by
    obtain ⟨h1, h2⟩ := lay_strs fun y hy => h y (List.mem_cons_of_mem _ hy)
    refine ⟨?_, ?_⟩
    · rw [List.map_cons, PyData.canLayAll0, PyData.canLay0, isW_ok (h x List.mem_cons_self), h1]; rfl
    · rw [List.map_cons, PyData.depthAll, h2, PyData.depth]; rfl
structure ColOk (c : Col) : Prop where
  n : isW c.1 = true
  v : ∀ xs, c.2 = some xs → ∀ x ∈ xs, isW x = true
theorem lay_item {c : Col} (h : ColOk c) : PyData.canLay0 (itemP c) = true ∧ PyData.depth (itemP c) ≤ 2 := by
  obtain ⟨n, o⟩ := c
  have a : (PyData.str n).canLay0 = true := by rw [PyData.canLay0]; exact isW_ok h.n
  have z : PyData.canLay0 PyData.none = true := by rw [PyData.canLay0]
  cases o with
  | none =>
    refine ⟨?_, ?_⟩
    · show PyData.canLay0 (.tuple [.str n, .none]) = true
      rw [PyData.canLay0, PyData.canLayAll0, PyData.canLayAll0, PyData.canLayAll0, a, z]; rfl
    · show PyData.depth (.tuple [.str n, .none]) ≤ 2
      have d1 : (PyData.str n).depth = 0 := by rw [PyData.depth]
      have d2 : PyData.depth PyData.none = 0 := by rw [PyData.depth]
      rw [PyData.depth, PyData.depthAll, PyData.depthAll, PyData.depthAll, d1, d2]; decide
  | some xs =>
    obtain ⟨h1, h2⟩ := lay_strs (h.v xs rfl)
    refine ⟨?_, ?_⟩
    · show PyData.canLay0 (.tuple [.str n, .tuple (xs.map .str)]) = true
      rw [PyData.canLay0, PyData.canLayAll0, PyData.canLayAll0, PyData.canLayAll0, a, PyData.canLay0, h1]; rfl
    · show PyData.depth (.tuple [.str n, .tuple (xs.map .str)]) ≤ 2
      have d1 : (PyData.str n).depth = 0 := by rw [PyData.depth]
      rw [PyData.depth, PyData.depthAll, PyData.depthAll, PyData.depthAll, d1, PyData.depth, h2]; decide
theorem lay_items : ∀ {cs : List Col}, (∀ c ∈ cs, ColOk c) → PyData.canLayAll0 (cs.map itemP) = true ∧ PyData.depthAll (cs.map itemP) ≤ 2
  | [], _ => ⟨rfl, by decide⟩
  | c :: cs, h => by
    obtain ⟨h1, h2⟩ := lay_items fun y hy => h y (List.mem_cons_of_mem _ hy)
    obtain ⟨h3, h4⟩ := lay_item (h c List.mem_cons_self)
    refine ⟨?_, ?_⟩
    · rw [List.map_cons, PyData.canLayAll0, h3, h1]; rfl
    · rw [List.map_cons, PyData.depthAll]; omega
theorem shaped_items {cs : List Col} (h : ∀ c ∈ cs, ColOk c) : SeqAt.shaped (.list (cs.map itemP)) = true := by
  obtain ⟨h1, h2⟩ := lay_items h
  unfold SeqAt.shaped
  rw [PyData.canLay0, h1, PyData.depth, decide_eq_true (by omega)]; rfl
theorem Cols.ok {ps : List (Str × List Str)} {xs : List Str} (h : Cols ps xs) : ∀ c ∈ csOf ps xs, ColOk c := fun c hc => by
  rcases List.mem_append.mp hc with q | q
  · obtain ⟨p, hp, rfl⟩ := List.mem_map.mp q
    exact ⟨(h.t p hp).n.w, fun xs e => by cases e; exact (h.t p hp).v.ws⟩
  · obtain ⟨p, hp, rfl⟩ := List.mem_map.mp q
    exact ⟨(h.f p hp).w, fun xs e => by cases e⟩
theorem eq_ok {C : Addr} {ps ps' : List (Str × List Str)} {xs xs' : List Str} (h : Cols ps xs) (h' : Cols ps' xs') : fEq C [colV C ps xs, colV C ps' xs'] = some (bD (decide (csOf ps xs = csOf ps' xs'))) := by
  refine run_rt (ret_f ?_)
  show (andF _ _) [.pu (colV C ps xs), .pu (colV C ps' xs')] = _
  rw [and_t (by show ((if C = C then some true else none : Option Bool)).map bD = _; rw [if_pos rfl]; rfl)]
  have it : ∀ {i : Nat} {ps : List (Str × List Str)} {xs : List Str} {ρ : L2.Tr.Env}, Cols ps xs → ρ[i]? = some (.pu (colV C ps xs)) → mapS (itemsO (fldF C "_values" (atP i))) ρ = some (.seq true ((csOf ps xs).map itemD)) := fun {i ps xs ρ} h e => by
    refine maps_ ?_
    unfold itemsO
    rw [fld_ok e]
    show (if ((keysOf ps xs).map (Sum.inr : Str → Key)).all okKey = true then _ else none) = _
    rw [if_pos (ok_keys (C := C) h), items_of]
  rw [bin_2 (it h rfl) (it h' rfl)]
  unfold eqP
  rw [pyD, pyD, pyD_items, pyD_items]
  show (if SeqAt.shaped (.list ((csOf ps xs).map itemP)) = true ∧ SeqAt.shaped (.list ((csOf ps' xs').map itemP)) = true then some (bD (xor false (PyData.eqv (.list ((csOf ps xs).map itemP)) (.list ((csOf ps' xs').map itemP))))) else none) = _
  rw [if_pos ⟨shaped_items h.ok, shaped_items h'.ok⟩, PyData.eqv, eqv_items, Bool.false_xor]
theorem eq_seq {C : Addr} {o : D} (b : Bool) (ds : List D) : fEq C [o, .seq b ds] = some (bD false) := by
  refine run_rt (ret_f ?_)
  show (andF _ _) [.pu o, .pu (.seq b ds)] = _
  refine and_f ?_
  cases b <;> rfl
theorem eq_int {C : Addr} {o : D} (i : Int) : fEq C [o, .leaf (.int i)] = some (bD false) := by
  show runF nEq.length (FEq C) [o, .leaf (.int i)] = _
  refine run_rt (ret_f ?_)
  show (andF _ _) [.pu o, .pu (.leaf (.int i))] = _
  exact and_f rfl
end L2.K1

namespace L2.K1
open PySem PySem.Spec PyProof.Rows L2.Tr
/-! the law's same -/
theorem same_str (g : List D → Option D) (x : Str) : fSame g [sD x, sD x] = some (bD true) := by
  show runF nSame.length (FSame g) [sD x, sD x] = _
  refine run_rt ?_
  show seqF _ _ [.pu (sD x), .pu (sD x), .un, .un] = _
  rw [seq_if_f rfl, seq_if_f rfl]
  refine ret_f ?_
  rw [and_t]
  · rfl
  · show some (bD (xor false (decide (V.str x = V.str x)))) = _
    rw [decide_eq_true rfl]; rfl
theorem same_non (g : List D → Option D) : fSame g [.leaf .non, .leaf .non] = some (bD true) := rfl
theorem same_strs (g : List D → Option D) (b : Bool) {xs : List Str} (hl : xs.length ≤ 100) : fSame (fSame g) [.seq b (xs.map sD), .seq b (xs.map sD)] = some (bD true) := by
  show runF nSame.length (FSame (fSame g)) [.seq b (xs.map sD), .seq b (xs.map sD)] = _
  refine run_rt ?_
  show seqF _ _ [.pu (.seq b (xs.map sD)), .pu (.seq b (xs.map sD)), .un, .un] = _
  have t1 : truF (isF isSeq (atP 1)) [.pu (.seq b (xs.map sD)), .pu (.seq b (xs.map sD)), .un, .un] = some true := by cases b <;> rfl
  refine seq_if_t t1 ?_
  rw [seq_if_f]
  · refine ret_f ?_
    rw [and_t]
    · have c1 : lcF [2, 3] (zipF (atP 0) (atP 1)) (tupT 2 (consT (setF 2) (consT (setF 3) nilT))) yesF (app1 (fSame g) (consD (atP 2) (consD (atP 3) nilD))) [.pu (.seq b (xs.map sD)), .pu (.seq b (xs.map sD)), .un, .un] = some ((xs.map fun x => D.seq false [sD x, sD x]).map fun _ => bD true) := by
        have hz : zipL (xs.map sD) (xs.map sD) = xs.map fun x => D.seq false [sD x, sD x] := by
          unfold zipL
          induction xs with
          | nil => rfl
          | cons x xs ih => rw [List.map_cons, List.zip_cons_cons, List.map_cons, ih (by rw [List.length_cons] at hl; omega) (by cases b <;> rfl)]; rfl
        show ((if b = b then some (zipL (xs.map sD) (xs.map sD)) else none).bind fun ds => if ds.length ≤ Lim then compF _ _ _ ds _ else none) = _
        rw [if_pos rfl, Option.bind_some, hz, if_pos (by rw [List.length_map]; have : Lim = 5000 := rfl; omega)]
        refine comp_map fun d hd => ?_
        obtain ⟨x, hx, rfl⟩ := List.mem_map.mp hd
        refine ⟨[.pu (.seq b (xs.map sD)), .pu (.seq b (xs.map sD)), .pu (sD x), .pu (sD x)], rfl, rfl, ?_⟩
        rw [app_2 (d := sD x) (e := sD x) rfl rfl]
        exact same_str g x
      rw [app_1 (maps_ c1), all_map (fun _ => true), List.all_eq_true.mpr fun _ _ => rfl]
    · show some (bD (xor false (decide (V.int (xs.map sD).length = V.int (xs.map sD).length)))) = _
      rw [decide_eq_true rfl]; rfl
  · cases b <;> rfl
/-! a world -/
def wD (ps : List (Str × List Str)) (xs named : List Str) : D := .dct [.inr "names", .inr "values", .inr "named"] [.seq true ((keysOf ps xs).map sD), .seq true (valsOf ps xs), .seq true (named.map sD)]
theorem w_names {ps : List (Str × List Str)} {xs named : List Str} : dgD (wD ps xs named) (.leaf (.str "names")) = some (.seq true ((keysOf ps xs).map sD)) := rfl
theorem w_values {ps : List (Str × List Str)} {xs named : List Str} : dgD (wD ps xs named) (.leaf (.str "values")) = some (.seq true (valsOf ps xs)) := rfl
theorem w_named {ps : List (Str × List Str)} {xs named : List Str} : dgD (wD ps xs named) (.leaf (.str "named")) = some (.seq true (named.map sD)) := rfl
def pairsOf (ps : List (Str × List Str)) (xs : List Str) : List D := (csOf ps xs).map itemD
theorem zip_w {ps : List (Str × List Str)} {xs : List Str} : zipL ((keysOf ps xs).map sD) (valsOf ps xs) = pairsOf ps xs := by
  unfold pairsOf
  rw [← items_of]
  unfold zipL
  rw [List.zip_map_left, List.zip_map_left, List.map_map, List.map_map]
  rfl
theorem free_ok {ps : List (Str × List Str)} {xs named : List Str} (h : Cols ps xs) : fFree [wD ps xs named] = some (.seq true (xs.map sD)) := by
  show runF nFree.length FFree [wD ps xs named] = _
  refine run_rt (ret_f (maps_ ?_))
  show ((zipF _ _) [.pu (wD ps xs named), .un, .un]).bind _ = _
  have hz : zipF (bin2 dgD (atP 0) (kD (.leaf (.str "names")))) (bin2 dgD (atP 0) (kD (.leaf (.str "values")))) [.pu (wD ps xs named), .un, .un] = some (pairsOf ps xs) := by
    unfold zipF
    rw [bin_2 (d := .seq true ((keysOf ps xs).map sD)) (e := .seq true (valsOf ps xs)) rfl rfl]
    show (if true = true then some (zipL ((keysOf ps xs).map sD) (valsOf ps xs)) else none) = _
    rw [if_pos rfl, zip_w]
  have hl : (pairsOf ps xs).length ≤ Lim := by
    unfold pairsOf csOf
    rw [List.length_map, List.length_append, List.length_map, List.length_map]
    have := h.l3
    have : Lim = 5000 := rfl
    omega
  rw [hz, Option.bind_some, if_pos hl]
  rw [comp_flt (p := fun d => match d with
    | .seq false [_, .leaf .non] => true
    | _ => false) (g := fun d => match d with
    | .seq false [n, _] => n
    | _ => .leaf .non) fun d hd => ?_]
  · unfold pairsOf csOf
    rw [List.map_append, List.filter_append, List.map_append]
    have e1 : ((List.map itemD (ps.map fun p => (p.1, some p.2))).filter fun d => match d with
      | .seq false [_, .leaf .non] => true
      | _ => false) = [] := by
      rw [List.filter_eq_nil_iff]
      intro d hd
      obtain ⟨c, hc, rfl⟩ := List.mem_map.mp hd
      obtain ⟨p, hp, rfl⟩ := List.mem_map.mp hc
      exact Bool.false_ne_true
    have e2 : ((List.map itemD (xs.map fun x => (x, none))).filter fun d => match d with
      | .seq false [_, .leaf .non] => true
      | _ => false) = List.map itemD (xs.map fun x => (x, none)) := by
      rw [List.filter_eq_self]
      intro d hd
      obtain ⟨c, hc, rfl⟩ := List.mem_map.mp hd
      obtain ⟨p, hp, rfl⟩ := List.mem_map.mp hc
      rfl
    rw [e1, e2, List.map_map, List.map_map]
    rfl
  · obtain ⟨c, hc, rfl⟩ := List.mem_map.mp hd
    obtain ⟨n, o⟩ := c
    refine ⟨[.pu (wD ps xs named), .pu (sD n), .pu (vD o)], rfl, ?_, fun _ => rfl⟩
    cases o <;> rfl
end L2.K1

namespace L2.K1
open PySem PySem.Spec PyProof.Rows L2.Tr
theorem lc_ {vs : List Nat} {ψ : L2.Tr.Env → Option (List D)} {θ : D → L2.Tr.Env → Option L2.Tr.Env} {χ : L2.Tr.Env → Option Bool} {φ : L2.Tr.Env → Option D} {ρ : L2.Tr.Env} {ds : List D} (h : ψ ρ = some ds) (hl : ds.length ≤ Lim) : lcF vs ψ θ χ φ ρ = compF θ χ φ ds (wipeE ρ vs) := by
  unfold lcF
  rw [h, Option.bind_some, if_pos hl]
theorem add_lst {xs ys : List D} (h : xs.length + ys.length ≤ Lim) : addD (.seq true xs) (.seq true ys) = some (.seq true (xs ++ ys)) := by
  show ((none : Option D).or ((none : Option D).or ((Option.map (D.seq true) (if xs.length + ys.length ≤ Lim then some (xs ++ ys) else none)).or _))) = _
  rw [if_pos h]; rfl
theorem add_tup {xs ys : List D} (h : xs.length + ys.length ≤ Lim) : addD (.seq false xs) (.seq false ys) = some (.seq false (xs ++ ys)) := by
  show ((none : Option D).or ((none : Option D).or ((none : Option D).or (if xs.length + ys.length ≤ Lim then some (.seq false (xs ++ ys)) else none)))) = _
  rw [if_pos h]; rfl
def letv : Str := "abcdefghijklmnopqrstuv"
def candL : List Str := letv.cps.toList.map fun c => ("zz" : Str) ++ (⟨#[c]⟩ : Str)
def knownL (ps : List (Str × List Str)) (xs named : List Str) : List Str := (keysOf ps xs ++ named) ++ ps.flatMap (·.2)
def spareL (ps : List (Str × List Str)) (xs named : List Str) : List Str := candL.filter fun x => !decide (x ∈ knownL ps xs named)
def spB : L2.Tr.Env → Option Out := asgF (bin2 addD (atP 1) (mapS (app1 lstA (consD (orF (atP 2) (mapS (lstDisp nilD))) nilD)))) (setF 1)
theorem spB_ok {w : D} {kn : List Str} {o : Option (List Str)} {s3 s4 : Sl} (ho : ∀ xs, o = some xs → xs ≠ [] ∧ kn.length + xs.length ≤ Lim) (hk : kn.length ≤ Lim) :
    spB [.pu w, .pu (.seq true (kn.map sD)), .pu (vD o), s3, s4] = some (.nx [.pu w, .pu (.seq true ((kn ++ o.getD []).map sD)), .pu (vD o), s3, s4]) := by
  have e : bin2 addD (atP 1) (mapS (app1 lstA (consD (orF (atP 2) (mapS (lstDisp nilD))) nilD))) [.pu w, .pu (.seq true (kn.map sD)), .pu (vD o), s3, s4] = some (.seq true ((kn ++ o.getD []).map sD)) := by
    have a : mapS (app1 lstA (consD (orF (atP 2) (mapS (lstDisp nilD))) nilD)) [.pu w, .pu (.seq true (kn.map sD)), .pu (vD o), s3, s4] = some (.seq true ((o.getD []).map sD)) := by
      refine maps_ ?_
      cases o with
      | none => rfl
      | some xs =>
        rw [app_1 (d := .seq false (xs.map sD))]
        · rfl
        · unfold orF
          show ((some (D.seq false (xs.map sD))).bind fun x => (truD x).bind fun k => if k = true then some x else _) = _
          have : truD (.seq false (xs.map sD)) = some true := by
            cases xs with
            | nil => exact absurd rfl (ho [] rfl).1
            | cons x xs => rfl
          rw [Option.bind_some, this]; rfl
    rw [bin_2 (d := .seq true (kn.map sD)) rfl a, add_lst, List.map_append]
    rw [List.length_map, List.length_map]
    cases o with
    | none => simpa using hk
    | some xs => exact (ho xs rfl).2
  unfold spB asgF
  rw [e]; rfl
theorem spare_loop {w : D} {s3 s4 : Sl} : ∀ {os : List (Option (List Str))} {kn : List Str} {s2 : Sl}, (∀ o ∈ os, ∀ xs, o = some xs → xs ≠ [] ∧ xs.length ≤ 3) → kn.length + 3 * os.length ≤ 1000 →
    ∃ t2, loopF (setF 2) spB (os.map vD) [.pu w, .pu (.seq true (kn.map sD)), s2, s3, s4] = some (.nx [.pu w, .pu (.seq true ((kn ++ os.flatMap fun o => o.getD []).map sD)), t2, s3, s4])
  | [], kn, s2, _, _ => ⟨s2, by rw [List.flatMap_nil, List.append_nil]; rfl⟩
  | o :: os, kn, s2, h, hl => by
    rw [List.length_cons] at hl
    have ho := h o List.mem_cons_self
    have : Lim = 5000 := rfl
    have hlo : (o.getD []).length ≤ 3 := by
      cases o with
      | none => simp
      | some xs => exact (ho xs rfl).2
    obtain ⟨t2, e⟩ := spare_loop (w := w) (s3 := s3) (s4 := s4) (os := os) (kn := kn ++ o.getD []) (s2 := .pu (vD o)) (fun o' h' => h o' (List.mem_cons_of_mem _ h')) (by rw [List.length_append]; omega)
    refine ⟨t2, ?_⟩
    show ((spB [.pu w, .pu (.seq true (kn.map sD)), .pu (vD o), s3, s4]).bind fun o1 => match o1 with
      | .nx ρ2 => loopF (setF 2) spB (os.map vD) ρ2
      | .ct ρ2 => loopF (setF 2) spB (os.map vD) ρ2
      | .bk ρ2 => some (.nx ρ2)
      | .rt d => some (.rt d)) = _
    rw [spB_ok (s3 := s3) (s4 := s4) (fun xs e => ⟨(ho xs e).1, by have := (ho xs e).2; omega⟩) (by omega)]
    show loopF _ _ _ _ = _
    rw [e, List.flatMap_cons, List.append_assoc]
def osOf (ps : List (Str × List Str)) (xs : List Str) : List (Option (List Str)) := (ps.map fun p => some p.2) ++ xs.map fun _ => none
theorem vals_os {ps : List (Str × List Str)} {xs : List Str} : valsOf ps xs = (osOf ps xs).map vD := by
  unfold valsOf osOf
  rw [List.map_append, List.map_map, List.map_map]
  rfl
theorem os_flat {ps : List (Str × List Str)} {xs : List Str} : ((osOf ps xs).flatMap fun o => o.getD []) = ps.flatMap (·.2) := by
  unfold osOf
  rw [List.flatMap_append]
  have e1 : ((ps.map fun p => some p.2).flatMap fun (o : Option (List Str)) => o.getD []) = ps.flatMap (·.2) := by
    induction ps with
    | nil => rfl
    | cons p ps ih => rw [List.map_cons, List.flatMap_cons, ih, List.flatMap_cons]; rfl
  have e2 : ((xs.map fun _ => (none : Option (List Str))).flatMap fun o => o.getD []) = [] := by
    induction xs with
    | nil => rfl
    | cons p ps ih => rw [List.map_cons, List.flatMap_cons, ih]; rfl
  rw [e1, e2, List.append_nil]
theorem os_good {ps : List (Str × List Str)} {xs : List Str} (h : Cols ps xs) : ∀ o ∈ osOf ps xs, ∀ ys, o = some ys → ys ≠ [] ∧ ys.length ≤ 3 := fun o ho ys e => by
  rcases List.mem_append.mp ho with q | q
  · obtain ⟨p, hp, rfl⟩ := List.mem_map.mp q
    cases e
    have v := (h.t p hp).v
    exact ⟨fun z => by have := v.lo; rw [z] at this; simp at this, v.hi⟩
  · obtain ⟨p, hp, rfl⟩ := List.mem_map.mp q
    cases e
theorem os_len {ps : List (Str × List Str)} {xs : List Str} : (osOf ps xs).length = ps.length + xs.length := by
  unfold osOf
  rw [List.length_append, List.length_map, List.length_map]
theorem cands {ρ : L2.Tr.Env} {w k s2 s3 s4 : Sl} (e : ρ = [w, k, s2, s3, s4]) : lcF [4] (strsF (kD (.leaf (.str "abcdefghijklmnopqrstuv")))) (setF 4) yesF (bin2 addD (kD (.leaf (.str "zz"))) (atP 4)) ρ = some (candL.map sD) := by
  subst e
  rw [lc_ (ds := L2.Tr.signs letv) rfl (by decide +kernel)]
  rw [comp_map (g := fun d => match d with
    | .leaf (.str u) => sD (("zz" : Str) ++ u)
    | d => d) fun d hd => ?_]
  · unfold L2.Tr.signs candL
    rw [List.map_map, List.map_map]
    rfl
  · unfold L2.Tr.signs at hd
    obtain ⟨c, hc, rfl⟩ := List.mem_map.mp hd
    exact ⟨_, rfl, rfl, rfl⟩
theorem spare_ok {ps : List (Str × List Str)} {xs named : List Str} (h : Cols ps xs) (hn : named.length ≤ 50) : fSpare [wD ps xs named] = some (.seq true ((spareL ps xs named).map sD)) := by
  show runF nSpare.length FSpare [wD ps xs named] = _
  refine run_rt ?_
  have l3 := h.l3
  have : Lim = 5000 := rfl
  obtain ⟨t2, e⟩ := spare_loop (w := wD ps xs named) (s3 := .un) (s4 := .un) (os := osOf ps xs) (kn := keysOf ps xs ++ named) (s2 := .un) (os_good h) (by rw [List.length_append, keys_len, os_len]; omega)
  rw [os_flat] at e
  show seqF _ _ [.pu (wD ps xs named), .un, .un, .un, .un] = _
  refine (seq_nx (ρ2 := [.pu (wD ps xs named), .pu (.seq true ((keysOf ps xs ++ named).map sD)), .un, .un, .un]) ?_).trans ?_
  · have a : bin2 addD (mapS (app1 lstA (consD (bin2 dgD (atP 0) (kD (.leaf (.str "names")))) nilD))) (mapS (app1 lstA (consD (bin2 dgD (atP 0) (kD (.leaf (.str "named")))) nilD))) [.pu (wD ps xs named), .un, .un, .un, .un] = some (.seq true ((keysOf ps xs ++ named).map sD)) := by
      rw [bin_2 (d := .seq true ((keysOf ps xs).map sD)) (e := .seq true (named.map sD)) rfl rfl, add_lst, List.map_append]
      rw [List.length_map, List.length_map, keys_len]; omega
    unfold asgF
    rw [a]; rfl
  · refine (seq_nx (ρ2 := [.pu (wD ps xs named), .pu (.seq true ((knownL ps xs named).map sD)), t2, .un, .un]) ?_).trans ?_
    · show loopF (setF 2) spB (valsOf ps xs) _ = _
      rw [vals_os]
      exact e
    · refine ret_f (maps_ ?_)
      have c : seqsF (mapS (lcF [4] (strsF (kD (.leaf (.str "abcdefghijklmnopqrstuv")))) (setF 4) yesF (bin2 addD (kD (.leaf (.str "zz"))) (atP 4)))) [.pu (wD ps xs named), .pu (.seq true ((knownL ps xs named).map sD)), t2, .un, .un] = some (candL.map sD) := by
        unfold seqsF
        rw [maps_ (cands rfl)]; rfl
      rw [lc_ c (by decide +kernel)]
      rw [comp_flt (p := fun d => match d with
        | .leaf (.str x) => !decide (x ∈ knownL ps xs named)
        | _ => false) (g := fun d => d) fun d hd => ?_]
      · congr 1
        rw [List.map_id']
        unfold spareL
        rw [List.filter_map]
        rfl
      · obtain ⟨x, hx, rfl⟩ := List.mem_map.mp hd
        refine ⟨[.pu (wD ps xs named), .pu (.seq true ((knownL ps xs named).map sD)), t2, .pu (sD x), .un], rfl, ?_, fun _ => rfl⟩
        refine asB_ ?_
        rw [bin_2 (d := sD x) (e := .seq true ((knownL ps xs named).map sD)) rfl rfl, inD_str]
        rw [Bool.true_xor]
end L2.K1

namespace L2.K1
open PySem PySem.Spec PyProof.Rows L2.Tr
/-! all rows -/
theorem cut_to {α : Type} (xs : List α) (k : Nat) : L2.Tr.cutD xs none (some (k : Int)) = xs.take k := by
  unfold L2.Tr.cutD
  rw [HT.sIx_none, HT.sIx_nat, List.drop_zero, Nat.sub_zero]
  by_cases h : k ≤ xs.length
  · rw [Nat.min_eq_left h]
  · rw [Nat.min_eq_right (by omega), List.take_length, List.take_of_length_le (by omega)]
theorem cut_from {α : Type} (xs : List α) (k : Nat) : L2.Tr.cutD xs (some (k : Int)) none = xs.drop k := by
  unfold L2.Tr.cutD
  rw [HT.sIx_none, HT.sIx_nat]
  by_cases h : k ≤ xs.length
  · rw [Nat.min_eq_left h, List.take_of_length_le (by rw [List.length_drop]; exact Nat.le_refl _)]
  · rw [Nat.min_eq_right (by omega), Nat.sub_self, List.take_zero, List.drop_eq_nil_of_le (by omega)]
theorem sl_to {φ : L2.Tr.Env → Option D} {ρ : L2.Tr.Env} {xs : List D} {k : Nat} {ψ : L2.Tr.Env → Option D} {hi : L2.Tr.Env → Option (Option Int)} (h : φ ρ = some (.seq true xs)) (hk : hi ρ = some (some (k : Int))) :
    orE (mapS (slF slO φ (fun _ => some none) hi)) ψ ρ = some (.seq true (xs.take k)) := by
  have e : slF slO φ (fun _ => some none) hi ρ = some (xs.take k) := by
    unfold slF
    rw [h, Option.bind_some, Option.bind_some, hk, Option.bind_some]
    show some (L2.Tr.cutD xs none (some (k : Int))) = _
    rw [cut_to]
  unfold orE
  rw [maps_ e]; rfl
theorem sl_from {φ : L2.Tr.Env → Option D} {ρ : L2.Tr.Env} {xs : List D} {k : Nat} {ψ : L2.Tr.Env → Option D} {lo : L2.Tr.Env → Option (Option Int)} (h : φ ρ = some (.seq true xs)) (hk : lo ρ = some (some (k : Int))) :
    orE (mapS (slF slO φ lo (fun _ => some none))) ψ ρ = some (.seq true (xs.drop k)) := by
  have e : slF slO φ lo (fun _ => some none) ρ = some (xs.drop k) := by
    unfold slF
    rw [h, Option.bind_some, hk, Option.bind_some, Option.bind_some]
    show some (L2.Tr.cutD xs (some (k : Int)) none) = _
    rw [cut_from]
  unfold orE
  rw [maps_ e]; rfl
def rowsD (rs : List (List Str)) : List D := rs.map fun r => .seq false (r.map sD)
def someOf (named sp : List Str) (o : Option (List Str)) (r : List Str) : List Str := match o with
  | some xs => xs
  | none => named ++ (if sp.headD "" ∈ r then sp.take 2 else sp.take 1)
def lB : L2.Tr.Env → Option Out := seqF (asgF (ifF (asBF (bin2 (inD false) (bin2 ixD (atP 2) (kD (.leaf (.int 0)))) (atP 5))) (orE (mapS (slF slO (atP 2) (fun _ => some none) (partF (kD (.leaf (.int 2)))))) (slF slT (atP 2) (fun _ => some none) (partF (kD (.leaf (.int 2)))))) (orE (mapS (slF slO (atP 2) (fun _ => some none) (partF (kD (.leaf (.int 1)))))) (slF slT (atP 2) (fun _ => some none) (partF (kD (.leaf (.int 1))))))) (setF 6)) (seqF (asgF (ifF (asBF (bin2 (isN true) (atP 3) (kD (.leaf .non)))) (mapS (app1 lstA (consD (atP 3) nilD))) (bin2 addD (bin2 dgD (atP 0) (kD (.leaf (.str "named")))) (atP 6))) (setF 7)) (growF 4 (extArg (mapS (lcF [8] (seqsF (atP 7)) (setF 8) yesF (bin2 addD (atP 5) (tupDisp (consD (atP 8) nilD)))))) fun xs ds => xs ++ ds))
theorem asg_ {φ : L2.Tr.Env → Option D} {ρ : L2.Tr.Env} {i : Nat} {d : D} (h : φ ρ = some d) : asgF φ (setF i) ρ = some (.nx (ρ.set i (.pu d))) := by
  unfold asgF
  rw [h]; rfl
theorem someOf_len {named sp r : List Str} {o : Option (List Str)} (hn : named.length ≤ 2) (ho : ∀ xs, o = some xs → xs.length ≤ 3) : (someOf named sp o r).length ≤ 4 := by
  cases o with
  | some xs => have := ho xs rfl; show xs.length ≤ 4; omega
  | none =>
    show (named ++ _).length ≤ 4
    rw [List.length_append]
    split
    · have := List.length_take_le 2 sp; omega
    · have := List.length_take_le 1 sp; omega
theorem lB_ok {ps : List (Str × List Str)} {xs named : List Str} {R : Sl} {s0 : Str} {st : List Str} {o : Option (List Str)} {acc : List (List Str)} {r : List Str} {s6 s7 s8 : Sl} (hn : named.length ≤ 2) (ho : ∀ xs, o = some xs → xs.length ≤ 3) (hr : r.length ≤ 10) (ha : acc.length ≤ 4000) :
    ∃ t6 t7, lB [.pu (wD ps xs named), R, .pu (.seq true ((s0 :: st).map sD)), .pu (vD o), .ow (.seq true (rowsD acc)), .pu (.seq false (r.map sD)), s6, s7, s8] = some (.nx [.pu (wD ps xs named), R, .pu (.seq true ((s0 :: st).map sD)), .pu (vD o), .ow (.seq true (rowsD (acc ++ (someOf named (s0 :: st) o r).map fun x => r ++ [x]))), .pu (.seq false (r.map sD)), t6, t7, s8]) := by
  have hL : Lim = 5000 := rfl
  have hs := someOf_len (sp := s0 :: st) (r := r) hn ho
  let fr : List Str := if s0 ∈ r then (s0 :: st).take 2 else (s0 :: st).take 1
  have hfr : fr.length ≤ 2 := by
    show (if s0 ∈ r then (s0 :: st).take 2 else (s0 :: st).take 1).length ≤ 2
    split
    · exact List.length_take_le 2 _
    · have := List.length_take_le 1 (s0 :: st); omega
  refine ⟨.pu (.seq true (fr.map sD)), .pu (.seq true ((someOf named (s0 :: st) o r).map sD)), ?_⟩
  unfold lB
  refine (seq_nx (ρ2 := [.pu (wD ps xs named), R, .pu (.seq true ((s0 :: st).map sD)), .pu (vD o), .ow (.seq true (rowsD acc)), .pu (.seq false (r.map sD)), .pu (.seq true (fr.map sD)), s7, s8]) ?_).trans ?_
  · refine (asg_ (d := .seq true (fr.map sD)) ?_).trans rfl
    unfold ifF
    have t : asBF (bin2 (inD false) (bin2 ixD (atP 2) (kD (.leaf (.int 0)))) (atP 5)) [.pu (wD ps xs named), R, .pu (.seq true ((s0 :: st).map sD)), .pu (vD o), .ow (.seq true (rowsD acc)), .pu (.seq false (r.map sD)), s6, s7, s8] = some (decide (s0 ∈ r)) := by
      refine asB_ ?_
      rw [bin_2 (d := sD s0) (e := .seq false (r.map sD)) ?_ rfl, inD_str, Bool.false_xor]
      rw [bin_2 (d := .seq true ((s0 :: st).map sD)) (e := .leaf (.int 0)) rfl rfl]
      show atI ((s0 :: st).map sD) 0 = _
      unfold L2.atI L2.ixN
      simp
    rw [t, Option.bind_some]
    by_cases h : s0 ∈ r
    · rw [decide_eq_true h, if_pos rfl, sl_to (xs := (s0 :: st).map sD) (k := 2) rfl rfl, ← List.map_take]
      show _ = some (D.seq true ((if s0 ∈ r then (s0 :: st).take 2 else (s0 :: st).take 1).map sD))
      rw [if_pos h]
    · rw [decide_eq_false h, if_neg (by decide), sl_to (xs := (s0 :: st).map sD) (k := 1) rfl rfl, ← List.map_take]
      show _ = some (D.seq true ((if s0 ∈ r then (s0 :: st).take 2 else (s0 :: st).take 1).map sD))
      rw [if_neg h]
  · refine (seq_nx (ρ2 := [.pu (wD ps xs named), R, .pu (.seq true ((s0 :: st).map sD)), .pu (vD o), .ow (.seq true (rowsD acc)), .pu (.seq false (r.map sD)), .pu (.seq true (fr.map sD)), .pu (.seq true ((someOf named (s0 :: st) o r).map sD)), s8]) ?_).trans ?_
    · refine (asg_ (d := .seq true ((someOf named (s0 :: st) o r).map sD)) ?_).trans rfl
      unfold ifF
      cases o with
      | some ys =>
        have t : asBF (bin2 (isN true) (atP 3) (kD (.leaf .non))) [.pu (wD ps xs named), R, .pu (.seq true ((s0 :: st).map sD)), .pu (vD (some ys)), .ow (.seq true (rowsD acc)), .pu (.seq false (r.map sD)), .pu (.seq true (fr.map sD)), s7, s8] = some true := rfl
        rw [t, Option.bind_some, if_pos rfl]
        rfl
      | none =>
        have t : asBF (bin2 (isN true) (atP 3) (kD (.leaf .non))) [.pu (wD ps xs named), R, .pu (.seq true ((s0 :: st).map sD)), .pu (vD none), .ow (.seq true (rowsD acc)), .pu (.seq false (r.map sD)), .pu (.seq true (fr.map sD)), s7, s8] = some false := rfl
        rw [t, Option.bind_some, if_neg (by decide)]
        rw [bin_2 (d := .seq true (named.map sD)) (e := .seq true (fr.map sD)) rfl rfl, add_lst (by rw [List.length_map, List.length_map]; omega), ← List.map_append]
        rfl
    · have c : lcF [8] (seqsF (atP 7)) (setF 8) yesF (bin2 addD (atP 5) (tupDisp (consD (atP 8) nilD))) [.pu (wD ps xs named), R, .pu (.seq true ((s0 :: st).map sD)), .pu (vD o), .ow (.seq true (rowsD acc)), .pu (.seq false (r.map sD)), .pu (.seq true (fr.map sD)), .pu (.seq true ((someOf named (s0 :: st) o r).map sD)), s8] = some (rowsD ((someOf named (s0 :: st) o r).map fun x => r ++ [x])) := by
        rw [lc_ (ds := (someOf named (s0 :: st) o r).map sD) rfl (by rw [List.length_map]; omega)]
        rw [comp_map (g := fun d => .seq false (r.map sD ++ [d])) fun d hd => ?_]
        · unfold rowsD
          rw [List.map_map, List.map_map]
          congr 1
          apply List.map_congr_left
          intro x _
          show D.seq false (r.map sD ++ [sD x]) = D.seq false ((r ++ [x]).map sD)
          rw [List.map_append]; rfl
        · refine ⟨[.pu (wD ps xs named), R, .pu (.seq true ((s0 :: st).map sD)), .pu (vD o), .ow (.seq true (rowsD acc)), .pu (.seq false (r.map sD)), .pu (.seq true (fr.map sD)), .pu (.seq true ((someOf named (s0 :: st) o r).map sD)), .pu d], rfl, rfl, ?_⟩
          rw [bin_2 (d := .seq false (r.map sD)) (e := .seq false [d]) rfl ?_, add_tup (by rw [List.length_map, List.length_singleton]; omega)]
          show (if [d].length ≤ Lim then some (D.seq false [d]) else none) = _
          rw [if_pos (by rw [List.length_singleton]; omega)]
      have x : extArg (mapS (lcF [8] (seqsF (atP 7)) (setF 8) yesF (bin2 addD (atP 5) (tupDisp (consD (atP 8) nilD))))) [.pu (wD ps xs named), R, .pu (.seq true ((s0 :: st).map sD)), .pu (vD o), .ow (.seq true (rowsD acc)), .pu (.seq false (r.map sD)), .pu (.seq true (fr.map sD)), .pu (.seq true ((someOf named (s0 :: st) o r).map sD)), s8] = some (rowsD ((someOf named (s0 :: st) o r).map fun x => r ++ [x])) := by
        unfold extArg
        rw [maps_ c]; rfl
      unfold growF
      show ((extArg _ [.pu (wD ps xs named), R, .pu (.seq true ((s0 :: st).map sD)), .pu (vD o), .ow (.seq true (rowsD acc)), .pu (.seq false (r.map sD)), .pu (.seq true (fr.map sD)), .pu (.seq true ((someOf named (s0 :: st) o r).map sD)), s8]).bind fun d => if (rowsD acc ++ d).length ≤ Lim then _ else none) = _
      rw [x, Option.bind_some, if_pos (by unfold rowsD; rw [List.length_append, List.length_map, List.length_map, List.length_map]; omega)]
      unfold rowsD
      rw [List.map_append]
      rfl
end L2.K1

namespace L2.K1
open PySem PySem.Spec PyProof.Rows L2.Tr
def stepR (named sp : List Str) (o : Option (List Str)) (rs : List (List Str)) : List (List Str) := rs.flatMap fun r => (someOf named sp o r).map fun x => r ++ [x]
def rowsOf (named sp : List Str) : List (Option (List Str)) → List (List Str) → List (List Str)
  | [], rs => rs
  | o :: os, rs => rowsOf named sp os (stepR named sp o rs)
theorem step_len {named sp : List Str} {o : Option (List Str)} (hn : named.length ≤ 2) (ho : ∀ xs, o = some xs → xs.length ≤ 3) : ∀ rs : List (List Str), (stepR named sp o rs).length ≤ 4 * rs.length
  | [] => by unfold stepR; simp
  | r :: rs => by
    have ih := step_len (sp := sp) hn ho rs
    have := someOf_len (sp := sp) (r := r) hn ho
    unfold stepR at ih ⊢
    rw [List.flatMap_cons, List.length_append, List.length_map, List.length_cons]
    omega
theorem rows_app (a b : List (List Str)) : rowsD a ++ rowsD b = rowsD (a ++ b) := by unfold rowsD; rw [List.map_append]
theorem in_loop {ps : List (Str × List Str)} {xs named : List Str} {R s8 : Sl} {s0 : Str} {st : List Str} {o : Option (List Str)} (hn : named.length ≤ 2) (ho : ∀ xs, o = some xs → xs.length ≤ 3) : ∀ {rs acc : List (List Str)} {s5 s6 s7 : Sl}, (∀ r ∈ rs, r.length ≤ 10) → acc.length + 4 * rs.length ≤ 4000 →
    ∃ t5 t6 t7, loopF (setF 5) lB (rowsD rs) [.pu (wD ps xs named), R, .pu (.seq true ((s0 :: st).map sD)), .pu (vD o), .ow (.seq true (rowsD acc)), s5, s6, s7, s8] = some (.nx [.pu (wD ps xs named), R, .pu (.seq true ((s0 :: st).map sD)), .pu (vD o), .ow (.seq true (rowsD (acc ++ stepR named (s0 :: st) o rs))), t5, t6, t7, s8])
  | [], acc, s5, s6, s7, _, _ => ⟨s5, s6, s7, by unfold stepR; rw [List.flatMap_nil, List.append_nil]; rfl⟩
  | r :: rs, acc, s5, s6, s7, hr, hl => by
    rw [List.length_cons] at hl
    have hs := someOf_len (sp := s0 :: st) (r := r) hn ho
    obtain ⟨t6, t7, e1⟩ := lB_ok (ps := ps) (xs := xs) (R := R) (s0 := s0) (st := st) (acc := acc) (r := r) (s6 := s6) (s7 := s7) (s8 := s8) hn ho (hr r List.mem_cons_self) (by omega)
    obtain ⟨u5, u6, u7, e2⟩ := in_loop hn ho (ps := ps) (xs := xs) (R := R) (s8 := s8) (s0 := s0) (st := st) (rs := rs) (acc := acc ++ (someOf named (s0 :: st) o r).map fun x => r ++ [x]) (s5 := .pu (.seq false (r.map sD))) (s6 := t6) (s7 := t7) (fun q hq => hr q (List.mem_cons_of_mem _ hq)) (by rw [List.length_append, List.length_map]; omega)
    refine ⟨u5, u6, u7, ?_⟩
    show ((lB [.pu (wD ps xs named), R, .pu (.seq true ((s0 :: st).map sD)), .pu (vD o), .ow (.seq true (rowsD acc)), .pu (.seq false (r.map sD)), s6, s7, s8]).bind fun o1 => match o1 with
      | .nx ρ2 => loopF (setF 5) lB (rowsD rs) ρ2
      | .ct ρ2 => loopF (setF 5) lB (rowsD rs) ρ2
      | .bk ρ2 => some (.nx ρ2)
      | .rt d => some (.rt d)) = _
    rw [e1]
    show loopF _ _ _ _ = _
    rw [e2, List.append_assoc]
    rfl
def oB : L2.Tr.Env → Option Out := seqF (asgO 4 (lstDisp nilD)) (seqF (forF (seqsF (atP 1)) (setF 5) lB) (moveF 1 4))
theorem oB_ok {ps : List (Str × List Str)} {xs named : List Str} {s4 s5 s6 s7 s8 : Sl} {s0 : Str} {st : List Str} {o : Option (List Str)} {rs : List (List Str)} (hn : named.length ≤ 2) (ho : ∀ xs, o = some xs → xs.length ≤ 3) (hr : ∀ r ∈ rs, r.length ≤ 10) (hl : 4 * rs.length ≤ 4000) :
    ∃ t4 t5 t6 t7, oB [.pu (wD ps xs named), .pu (.seq true (rowsD rs)), .pu (.seq true ((s0 :: st).map sD)), .pu (vD o), s4, s5, s6, s7, s8] = some (.nx [.pu (wD ps xs named), .pu (.seq true (rowsD (stepR named (s0 :: st) o rs))), .pu (.seq true ((s0 :: st).map sD)), .pu (vD o), t4, t5, t6, t7, s8]) := by
  obtain ⟨u5, u6, u7, e⟩ := in_loop hn ho (ps := ps) (xs := xs) (R := .pu (.seq true (rowsD rs))) (s8 := s8) (s0 := s0) (st := st) (rs := rs) (acc := []) (s5 := s5) (s6 := s6) (s7 := s7) hr (by rw [List.length_nil]; omega)
  rw [List.nil_append] at e
  refine ⟨.pu (.seq true (rowsD (stepR named (s0 :: st) o rs))), u5, u6, u7, ?_⟩
  unfold oB
  refine (seq_nx (ρ2 := [.pu (wD ps xs named), .pu (.seq true (rowsD rs)), .pu (.seq true ((s0 :: st).map sD)), .pu (vD o), .ow (.seq true (rowsD [])), s5, s6, s7, s8]) rfl).trans ?_
  refine (seq_nx (by exact e)).trans ?_
  rfl
theorem step_row {named sp : List Str} {o : Option (List Str)} {rs : List (List Str)} {k : Nat} (hr : ∀ r ∈ rs, r.length ≤ k) : ∀ r ∈ stepR named sp o rs, r.length ≤ k + 1 := fun r h => by
  obtain ⟨q, hq, h⟩ := List.mem_flatMap.mp h
  obtain ⟨x, hx, rfl⟩ := List.mem_map.mp h
  rw [List.length_append, List.length_singleton]
  have := hr q hq
  omega
theorem out_loop {ps : List (Str × List Str)} {xs named : List Str} {s8 : Sl} {s0 : Str} {st : List Str} (hn : named.length ≤ 2) : ∀ {os : List (Option (List Str))} {rs : List (List Str)} {s3 s4 s5 s6 s7 : Sl}, (∀ o ∈ os, ∀ xs, o = some xs → xs.length ≤ 3) → (∀ r ∈ rs, r.length + os.length ≤ 10) → rs.length * 4 ^ os.length ≤ 1000 →
    ∃ t3 t4 t5 t6 t7, loopF (setF 3) oB (os.map vD) [.pu (wD ps xs named), .pu (.seq true (rowsD rs)), .pu (.seq true ((s0 :: st).map sD)), s3, s4, s5, s6, s7, s8] = some (.nx [.pu (wD ps xs named), .pu (.seq true (rowsD (rowsOf named (s0 :: st) os rs))), .pu (.seq true ((s0 :: st).map sD)), t3, t4, t5, t6, t7, s8])
  | [], rs, s3, s4, s5, s6, s7, _, _, _ => ⟨s3, s4, s5, s6, s7, rfl⟩
  | o :: os, rs, s3, s4, s5, s6, s7, ho, hr, hl => by
    rw [List.length_cons] at hr hl
    have hp : 1 ≤ 4 ^ os.length := Nat.one_le_pow _ _ (by decide)
    have hl2 : 4 * rs.length * 4 ^ os.length ≤ 1000 := by rw [Nat.pow_succ] at hl; rw [Nat.mul_comm 4 rs.length, Nat.mul_assoc, Nat.mul_comm 4]; exact hl
    have hl3 : 4 * rs.length ≤ 1000 := Nat.le_trans (Nat.le_mul_of_pos_right _ hp) hl2
    have hl4 := step_len (sp := s0 :: st) (o := o) hn (ho o List.mem_cons_self) rs
    obtain ⟨t4, t5, t6, t7, e1⟩ := oB_ok (ps := ps) (xs := xs) (s4 := s4) (s5 := s5) (s6 := s6) (s7 := s7) (s8 := s8) (s0 := s0) (st := st) (o := o) (rs := rs) hn (ho o List.mem_cons_self) (fun r h => by have := hr r h; omega) (by omega)
    obtain ⟨u3, u4, u5, u6, u7, e2⟩ := out_loop (ps := ps) (xs := xs) (s8 := s8) (s0 := s0) (st := st) hn (os := os) (rs := stepR named (s0 :: st) o rs) (s3 := .pu (vD o)) (s4 := t4) (s5 := t5) (s6 := t6) (s7 := t7) (fun o' h => ho o' (List.mem_cons_of_mem _ h)) (fun r h => by
      have := step_row (k := 10 - os.length - 1) (fun r h => by have := hr r h; omega) r h
      have hb : os.length + 1 ≤ 10 := by
        obtain ⟨q, hq, _⟩ := List.mem_flatMap.mp h
        have := hr q hq; omega
      omega) (Nat.le_trans (Nat.mul_le_mul_right _ hl4) hl2)
    refine ⟨u3, u4, u5, u6, u7, ?_⟩
    show ((oB [.pu (wD ps xs named), .pu (.seq true (rowsD rs)), .pu (.seq true ((s0 :: st).map sD)), .pu (vD o), s4, s5, s6, s7, s8]).bind fun o1 => match o1 with
      | .nx ρ2 => loopF (setF 3) oB (os.map vD) ρ2
      | .ct ρ2 => loopF (setF 3) oB (os.map vD) ρ2
      | .bk ρ2 => some (.nx ρ2)
      | .rt d => some (.rt d)) = _
    rw [e1]
    show loopF _ _ _ _ = _
    rw [e2]
    rfl
theorem letters_ok {ps : List (Str × List Str)} {xs named : List Str} (h : Cols ps xs) (hn : named.length ≤ 2) {s0 : Str} {st : List Str} (hs : spareL ps xs named = s0 :: st) : fLetters [wD ps xs named] = some (.seq true (rowsD (rowsOf named (s0 :: st) (osOf ps xs) [[]]))) := by
  show runF nLetters.length FLetters [wD ps xs named] = _
  refine run_rt ?_
  have l3 := h.l3
  have ll : (osOf ps xs).length ≤ 3 := by rw [os_len]; exact l3
  obtain ⟨t3, t4, t5, t6, t7, e⟩ := out_loop (ps := ps) (xs := xs) (s8 := .un) (s0 := s0) (st := st) hn (os := osOf ps xs) (rs := [[]]) (s3 := .un) (s4 := .un) (s5 := .un) (s6 := .un) (s7 := .un) (fun o ho ys e => (os_good h o ho ys e).2) (fun r hr => by rw [List.mem_singleton.mp hr, List.length_nil]; omega)
    (by rw [List.length_singleton, Nat.one_mul]; exact Nat.le_trans (Nat.pow_le_pow_right (by decide) ll) (by decide))
  show seqF _ _ [.pu (wD ps xs named), .un, .un, .un, .un, .un, .un, .un, .un] = _
  refine (seq_nx (ρ2 := [.pu (wD ps xs named), .pu (.seq true (rowsD [[]])), .pu (.seq true ((s0 :: st).map sD)), .un, .un, .un, .un, .un, .un]) ?_).trans ?_
  · have sp := spare_ok (named := named) h (by omega)
    rw [hs] at sp
    show ((some (D.seq true [.seq false []])).bind fun d => ((app1 fSpare (consD (atP 0) nilD)) [.pu (wD ps xs named), .un, .un, .un, .un, .un, .un, .un, .un]).map fun d' => Out.nx (([Sl.pu (wD ps xs named), .un, .un, .un, .un, .un, .un, .un, .un].set 1 (Sl.pu d)).set 2 (Sl.pu d'))) = _
    rw [app_1 (d := wD ps xs named) rfl, sp]
    rfl
  · refine (seq_nx (ρ2 := _) (by
      show loopF (setF 3) oB (valsOf ps xs) _ = _
      rw [vals_os]
      exact e)).trans ?_
    rfl
/-! what stands in them -/
def Fits (o : Option (List Str)) (x : Str) : Prop := isW x = true ∧ ∀ xs, o = some xs → x ∈ xs
theorem rows_fit {named sp : List Str} (hn : ∀ x ∈ named, isW x = true) (hs : ∀ x ∈ sp, isW x = true) : ∀ {os : List (Option (List Str))} {rs : List (List Str)}, (∀ o ∈ os, ∀ xs, o = some xs → ∀ x ∈ xs, isW x = true) → ∀ r ∈ rowsOf named sp os rs, ∃ r0 ∈ rs, ∃ t, r = r0 ++ t ∧ Paired Fits os t
  | [], rs, _, r, h => ⟨r, h, [], (List.append_nil r).symm, .nil⟩
  | o :: os, rs, ho, r, h => by
    obtain ⟨r1, h1, t, rfl, pt⟩ := rows_fit hn hs (os := os) (fun o' h' => ho o' (List.mem_cons_of_mem _ h')) r h
    obtain ⟨r0, h0, h1⟩ := List.mem_flatMap.mp h1
    obtain ⟨x, hx, rfl⟩ := List.mem_map.mp h1
    refine ⟨r0, h0, x :: t, by rw [List.append_assoc]; rfl, .cons ?_ pt⟩
    cases o with
    | some xs => exact ⟨ho _ List.mem_cons_self xs rfl x hx, fun ys e => by cases e; exact hx⟩
    | none =>
      refine ⟨?_, fun ys e => by cases e⟩
      rcases List.mem_append.mp hx with q | q
      · exact hn x q
      · split at q
        · exact hs x (List.mem_of_mem_take q)
        · exact hs x (List.mem_of_mem_take q)
end L2.K1

namespace L2.K1
open PySem PySem.Spec PyProof.Rows L2.Tr
/-! what is no row -/
def canB (d v : D) : Bool := match fCan [d, v] with
  | some (.leaf (.bl b)) => b
  | _ => false
def CanD (d : D) : Prop := plainD d = true ∧ ∀ o, ∃ b, fCan [d, vD o] = some (bD b)
theorem can_strD (x : Str) : CanD (sD x) := ⟨rfl, fun o => by
  cases o with
  | none => exact ⟨_, can_free x⟩
  | some xs => exact ⟨_, can_told x false xs⟩⟩
theorem can_odd {d : D} (hp : plainD d = true) (h : fIsW [d] = some (bD false)) : CanD d := ⟨hp, fun o => ⟨_, can_bad h⟩⟩
theorem plain_all : ∀ {ds : List D}, (∀ d ∈ ds, plainD d = true) → plainDs ds = true
  | [], _ => rfl
  | d :: ds, h => by
    show (plainD d && plainDs ds) = true
    rw [h d List.mem_cons_self, plain_all fun x hx => h x (List.mem_cons_of_mem _ hx)]; rfl
theorem row_no {C : Addr} {ps : List (Str × List Str)} {xs : List Str} {b : Bool} {ds : List D} (h : Cols ps xs) (hl : ds.length = (keysOf ps xs).length) (hc : ∀ d ∈ ds, CanD d) {i : Nat} {o : Option (List Str)} {d : D} (h1 : (osOf ps xs)[i]? = some o) (h2 : ds[i]? = some d) (h3 : fCan [d, vD o] = some (bD false)) :
    fIsRow C [colV C ps xs, .seq b ds] = some (bD false) := by
  have l3 := h.l3
  have e := row_ok (C := C) (b := b) (c := fun q => canB q.2 q.1) hl (by rw [hl, keys_len]; exact l3) (plain_all fun d hd => (hc d hd).1) (fun q hq => by
    obtain ⟨v, x⟩ := q
    have hv := (List.of_mem_zip hq).1
    rw [vals_os] at hv
    obtain ⟨o', _, rfl⟩ := List.mem_map.mp hv
    obtain ⟨bb, hb⟩ := (hc x (List.of_mem_zip hq).2).2 o'
    show fCan [x, vD o'] = some (bD (canB x (vD o')))
    unfold canB
    rw [hb]; rfl)
  rw [e]
  have : ((valsOf ps xs).zip ds).all (fun q => canB q.2 q.1) = false := by
    rw [List.all_eq_false]
    refine ⟨(vD o, d), ?_, ?_⟩
    · refine List.mem_of_getElem? (i := i) ?_
      rw [vals_os]
      exact (List.getElem?_zip_eq_some (z := (vD o, d))).mpr ⟨by rw [List.getElem?_map, h1]; rfl, h2⟩
    · show ¬ canB d (vD o) = true
      unfold canB
      rw [h3]; exact Bool.false_ne_true
  rw [this]
def firstsOf (os : List (Option (List Str))) : List Str := os.map fun o => match o with
  | some xs => xs.headD "zz"
  | none => "zz"
theorem cut_m1 {α : Type} (xs : List α) (h : 1 ≤ xs.length) : L2.Tr.cutD xs none (some (-1)) = xs.take (xs.length - 1) := by
  unfold L2.Tr.cutD
  have e : HT.sIx xs.length xs.length (some (-1)) = xs.length - 1 := by
    show (if (-1 : Int) < 0 then ((-1 : Int) + (xs.length : Int)).toNat else min (-1 : Int).toNat xs.length) = _
    rw [if_pos (by decide)]; omega
  rw [e, HT.sIx_none, List.drop_zero, Nat.sub_zero]
theorem sl_m1 {φ : L2.Tr.Env → Option D} {ρ : L2.Tr.Env} {xs : List D} {ψ : L2.Tr.Env → Option D} (h : φ ρ = some (.seq true xs)) (hl : 1 ≤ xs.length) :
    orE (mapS (slF slO φ (fun _ => some none) (partF (negF (kD (.leaf (.int 1))))))) ψ ρ = some (.seq true (xs.take (xs.length - 1))) := by
  have e : slF slO φ (fun _ => some none) (partF (negF (kD (.leaf (.int 1))))) ρ = some (xs.take (xs.length - 1)) := by
    unfold slF
    rw [h, Option.bind_some, Option.bind_some]
    show some (L2.Tr.cutD xs none (some (-1))) = _
    rw [cut_m1 xs hl]
  unfold orE
  rw [maps_ e]; rfl
def oddFs : List D := [.leaf (.int 5), .leaf .non, sD "A", sD "", .seq true [sD "a"], sD "abcdefghi", sD "a b"]
theorem odd_no : ∀ d ∈ oddFs, fIsW [d] = some (bD false) ∧ plainD d = true := fun d hd => by
  unfold oddFs at hd
  simp only [List.mem_cons, List.mem_nil_iff, or_false] at hd
  rcases hd with rfl | rfl | rfl | rfl | rfl | rfl | rfl
  · exact ⟨rfl, rfl⟩
  · exact ⟨rfl, rfl⟩
  · exact ⟨by rw [w_str, show isW "A" = false by decide +kernel], rfl⟩
  · exact ⟨by rw [w_str, show isW "" = false by decide +kernel], rfl⟩
  · exact ⟨rfl, rfl⟩
  · exact ⟨by rw [w_str, show isW "abcdefghi" = false by decide +kernel], rfl⟩
  · exact ⟨by rw [w_str, show isW "a b" = false by decide +kernel], rfl⟩
theorem can_false {x : Str} {ys : List Str} (h : x ∉ ys) : fCan [sD x, vD (some ys)] = some (bD false) := by
  show fCan [sD x, .seq false (ys.map sD)] = _
  rw [can_told, decide_eq_false h, Bool.and_false]
theorem firsts_len (os : List (Option (List Str))) : (firstsOf os).length = os.length := by unfold firstsOf; rw [List.length_map]
/-- the things so far are no rows -/
def Bads (C : Addr) (ps : List (Str × List Str)) (xs : List Str) (fs : List D) : Prop := ∀ d ∈ fs, fIsRow C [colV C ps xs, d] = some (bD false)
theorem Bads.snoc {C : Addr} {ps : List (Str × List Str)} {xs : List Str} {fs : List D} {d : D} (h : Bads C ps xs fs) (hd : fIsRow C [colV C ps xs, d] = some (bD false)) : Bads C ps xs (fs ++ [d]) := fun x hx => by
  rcases List.mem_append.mp hx with q | q
  · exact h x q
  · rw [List.mem_singleton.mp q]; exact hd
theorem first_0 {ρ : L2.Tr.Env} {o : Option (List Str)} (h : ρ[2]? = some (.pu (vD o))) (ho : ∀ xs, o = some xs → xs ≠ []) :
    bin2 ixD (mapS (app1 lstA (consD (orF (atP 2) (mapS (lstDisp (consD (kD (.leaf (.str "zz"))) nilD)))) nilD))) (kD (.leaf (.int 0))) ρ = some (sD (match o with | some xs => xs.headD "zz" | none => "zz")) := by
  have a2 : atP 2 ρ = some (vD o) := by unfold atP; rw [h]
  cases o with
  | none =>
    rw [bin_2 (d := .seq true [sD "zz"]) (e := .leaf (.int 0)) ?_ rfl]
    · rfl
    · refine maps_ ?_
      rw [app_1 (d := .seq true [sD "zz"])]
      · rfl
      · unfold orF
        rw [a2]; rfl
  | some xs =>
    cases xs with
    | nil => exact absurd rfl (ho [] rfl)
    | cons x xs =>
      rw [bin_2 (d := .seq true ((x :: xs).map sD)) (e := .leaf (.int 0)) ?_ rfl]
      · show atI ((x :: xs).map sD) 0 = _
        unfold L2.atI L2.ixN
        simp
      · refine maps_ ?_
        rw [app_1 (d := .seq false ((x :: xs).map sD))]
        · rfl
        · unfold orF
          rw [a2]; rfl
/-- the row with its last word exchanged -/
theorem bad_last {C : Addr} {ps : List (Str × List Str)} {xs : List Str} (h : Cols ps xs) {d : D} (hd : d ∈ oddFs) : fIsRow C [colV C ps xs, .seq true (((firstsOf (osOf ps xs)).map sD).take (((firstsOf (osOf ps xs)).map sD).length - 1) ++ [d])] = some (bD false) := by
  have l1 := h.l1
  have hn : ((firstsOf (osOf ps xs)).map sD).length = ps.length + xs.length := by rw [List.length_map, firsts_len, os_len]
  obtain ⟨hw, hp⟩ := odd_no d hd
  have hi : ps.length + xs.length - 1 < (osOf ps xs).length := by rw [os_len]; omega
  refine row_no (i := ps.length + xs.length - 1) (o := (osOf ps xs)[ps.length + xs.length - 1]) (d := d) h ?_ ?_ (List.getElem?_eq_getElem hi) ?_ (can_bad hw)
  · rw [List.length_append, List.length_take, List.length_singleton, hn, keys_len]; omega
  · intro x hx
    rcases List.mem_append.mp hx with q | q
    · obtain ⟨y, _, rfl⟩ := List.mem_map.mp (List.mem_of_mem_take q)
      exact can_strD y
    · rw [List.mem_singleton.mp q]; exact can_odd hp hw
  · rw [List.getElem?_append_right (by rw [List.length_take, hn]; omega), List.length_take, hn, Nat.min_eq_left (by omega), Nat.sub_self]
    rfl
/-- the row with a word that is none of its column's -/
theorem bad_at {C : Addr} {ps : List (Str × List Str)} {xs : List Str} (h : Cols ps xs) {i : Nat} {ys : List Str} {s : Str} (hi : (osOf ps xs)[i]? = some (some ys)) (hs : s ∉ ys) :
    fIsRow C [colV C ps xs, .seq true (((firstsOf (osOf ps xs)).map sD).take i ++ [sD s] ++ ((firstsOf (osOf ps xs)).map sD).drop (i + 1))] = some (bD false) := by
  have hl := (List.getElem?_eq_some_iff.mp hi).1
  have hn : ((firstsOf (osOf ps xs)).map sD).length = (osOf ps xs).length := by rw [List.length_map, firsts_len]
  refine row_no (i := i) (o := some ys) (d := sD s) h ?_ ?_ hi ?_ (can_false hs)
  · rw [List.length_append, List.length_append, List.length_take, List.length_drop, List.length_singleton, hn, keys_len, ← os_len, Nat.min_eq_left (by omega)]; omega
  · intro x hx
    rcases List.mem_append.mp hx with q | q
    · rcases List.mem_append.mp q with q | q
      · obtain ⟨y, _, rfl⟩ := List.mem_map.mp (List.mem_of_mem_take q)
        exact can_strD y
      · rw [List.mem_singleton.mp q]; exact can_strD s
    · obtain ⟨y, _, rfl⟩ := List.mem_map.mp (List.mem_of_mem_drop q)
      exact can_strD y
  · rw [List.append_assoc, List.getElem?_append_right (by rw [List.length_take, hn]; omega), List.length_take, hn, Nat.min_eq_left (by omega), Nat.sub_self]
    rfl
end L2.K1

namespace L2.K1
open PySem PySem.Spec PyProof.Rows L2.Tr
theorem cons_ {φ : L2.Tr.Env → Option D} {ψ : L2.Tr.Env → Option (List D)} {ρ : L2.Tr.Env} {d : D} {ds : List D} (h : φ ρ = some d) (h2 : ψ ρ = some ds) : consD φ ψ ρ = some (d :: ds) := by
  unfold consD
  rw [h, Option.bind_some, h2]; rfl
theorem lst_ {ψ : L2.Tr.Env → Option (List D)} {ρ : L2.Tr.Env} {ds : List D} (h : ψ ρ = some ds) (hl : ds.length ≤ Lim) : lstDisp ψ ρ = some ds := by
  show (ψ ρ).bind (fun ds => if ds.length ≤ Lim then some ds else none) = _
  rw [h, Option.bind_some, if_pos hl]
theorem grow_ {i : Nat} {φ : L2.Tr.Env → Option D} {ρ : L2.Tr.Env} {fs : List D} {d : D} (h : ρ[i]? = some (.ow (.seq true fs))) (hd : φ ρ = some d) (hl : fs.length < 1000) : growF i φ (fun xs d => xs ++ [d]) ρ = some (.nx (ρ.set i (.ow (.seq true (fs ++ [d]))))) := by
  unfold growF
  rw [h]
  show ((φ ρ).bind fun d => if (fs ++ [d]).length ≤ Lim then some (Out.nx (ρ.set i (.ow (.seq true (fs ++ [d]))))) else none) = _
  rw [hd, Option.bind_some, if_pos (by rw [List.length_append, List.length_singleton]; have : Lim = 5000 := rfl; omega)]
def gB1 : L2.Tr.Env → Option Out := growF 3 (bin2 addD (orE (mapS (slF slO (atP 1) (fun _ => some none) (partF (negF (kD (.leaf (.int 1))))))) (slF slT (atP 1) (fun _ => some none) (partF (negF (kD (.leaf (.int 1))))))) (mapS (lstDisp (consD (atP 4) nilD)))) fun xs d => xs ++ [d]
def gB2 : L2.Tr.Env → Option Out := ifS (asBF (bin2 (isN true) (atP 2) (kD (.leaf .non)))) (growF 3 (bin2 addD (bin2 addD (orE (mapS (slF slO (atP 1) (fun _ => some none) (partF (atP 5)))) (slF slT (atP 1) (fun _ => some none) (partF (atP 5)))) (orE (mapS (slF slO (app1 fSpare (consD (atP 0) nilD)) (fun _ => some none) (partF (kD (.leaf (.int 1)))))) (slF slT (app1 fSpare (consD (atP 0) nilD)) (fun _ => some none) (partF (kD (.leaf (.int 1))))))) (orE (mapS (slF slO (atP 1) (partF (bin2 addD (atP 5) (kD (.leaf (.int 1))))) (fun _ => some none))) (slF slT (atP 1) (partF (bin2 addD (atP 5) (kD (.leaf (.int 1))))) (fun _ => some none)))) fun xs d => xs ++ [d]) skipF
section
variable {C : Addr} {ps : List (Str × List Str)} {xs named : List Str} {s0 : Str} {st : List Str}
theorem odd_l1 (h : Cols ps xs) {s2 s5 : Sl} : ∀ {ds fs : List D} {s4 : Sl}, (∀ d ∈ ds, d ∈ oddFs) → Bads C ps xs fs → fs.length + ds.length < 100 →
    ∃ fs' t4, loopF (setF 4) gB1 ds [.pu (wD ps xs named), .pu (.seq true ((firstsOf (osOf ps xs)).map sD)), s2, .ow (.seq true fs), s4, s5] = some (.nx [.pu (wD ps xs named), .pu (.seq true ((firstsOf (osOf ps xs)).map sD)), s2, .ow (.seq true fs'), t4, s5]) ∧ Bads C ps xs fs' ∧ fs'.length = fs.length + ds.length
  | [], fs, s4, _, hb, _ => ⟨fs, s4, rfl, hb, rfl⟩
  | d :: ds, fs, s4, hd, hb, hl => by
    rw [List.length_cons] at hl
    have l1 := h.l1
    have l3 := h.l3
    have hn : ((firstsOf (osOf ps xs)).map sD).length = ps.length + xs.length := by rw [List.length_map, firsts_len, os_len]
    obtain ⟨fs', t4, e, b, l⟩ := odd_l1 h (s2 := s2) (s5 := s5) (ds := ds) (fs := fs ++ [.seq true (((firstsOf (osOf ps xs)).map sD).take (((firstsOf (osOf ps xs)).map sD).length - 1) ++ [d])]) (s4 := .pu d) (fun x hx => hd x (List.mem_cons_of_mem _ hx)) (hb.snoc (bad_last h (hd d List.mem_cons_self))) (by rw [List.length_append, List.length_singleton]; omega)
    refine ⟨fs', t4, ?_, b, by rw [l, List.length_append, List.length_singleton, List.length_cons]; omega⟩
    show ((gB1 [.pu (wD ps xs named), .pu (.seq true ((firstsOf (osOf ps xs)).map sD)), s2, .ow (.seq true fs), .pu d, s5]).bind fun o1 => match o1 with
      | .nx ρ2 => loopF (setF 4) gB1 ds ρ2
      | .ct ρ2 => loopF (setF 4) gB1 ds ρ2
      | .bk ρ2 => some (.nx ρ2)
      | .rt d => some (.rt d)) = _
    have e1 : gB1 [.pu (wD ps xs named), .pu (.seq true ((firstsOf (osOf ps xs)).map sD)), s2, .ow (.seq true fs), .pu d, s5] = some (.nx [.pu (wD ps xs named), .pu (.seq true ((firstsOf (osOf ps xs)).map sD)), s2, .ow (.seq true (fs ++ [.seq true (((firstsOf (osOf ps xs)).map sD).take (((firstsOf (osOf ps xs)).map sD).length - 1) ++ [d])])), .pu d, s5]) := by
      unfold gB1
      rw [grow_ (fs := fs) rfl ?_ (by omega)]
      · rfl
      · rw [bin_2 (sl_m1 (xs := (firstsOf (osOf ps xs)).map sD) rfl (by rw [hn]; omega)) (e := .seq true [d]) ?_, add_lst]
        · rw [List.length_take, List.length_singleton, hn]; have : Lim = 5000 := rfl; omega
        · refine maps_ ?_
          show (if [d].length ≤ Lim then some [d] else none) = _
          rw [if_pos (by rw [List.length_singleton]; have : Lim = 5000 := rfl; omega)]
    rw [e1]
    exact e
theorem odd_l2 (h : Cols ps xs) (hn2 : named.length ≤ 50) (hs : spareL ps xs named = s0 :: st) (hs0 : ∀ (i : Nat) (ys : List Str), (osOf ps xs)[i]? = some (some ys) → s0 ∉ ys) {s4 : Sl} : ∀ {os : List (Option (List Str))} {i : Nat} {fs : List D} {s2 s5 : Sl}, (osOf ps xs).drop i = os → Bads C ps xs fs → fs.length + os.length < 100 →
    ∃ fs' t2 t5, loopF (tupT 2 (consT (setF 5) (consT (setF 2) nilT))) gB2 (enumL i (os.map vD)) [.pu (wD ps xs named), .pu (.seq true ((firstsOf (osOf ps xs)).map sD)), s2, .ow (.seq true fs), s4, s5] = some (.nx [.pu (wD ps xs named), .pu (.seq true ((firstsOf (osOf ps xs)).map sD)), t2, .ow (.seq true fs'), s4, t5]) ∧ Bads C ps xs fs' ∧ fs'.length ≤ fs.length + os.length
  | [], i, fs, s2, s5, _, hb, _ => ⟨fs, s2, s5, rfl, hb, Nat.le_refl _⟩
  | o :: os, i, fs, s2, s5, he, hb, hl => by
    rw [List.length_cons] at hl
    have hn : ((firstsOf (osOf ps xs)).map sD).length = (osOf ps xs).length := by rw [List.length_map, firsts_len]
    have hlen : (osOf ps xs).length ≤ 3 := by rw [os_len]; exact h.l3
    have hi : (osOf ps xs)[i]? = some o := by
      have := congrArg (fun l => l[0]?) he
      simpa using this
    have he2 : (osOf ps xs).drop (i + 1) = os := by
      have := congrArg (List.drop 1) he
      rw [List.drop_drop] at this
      simpa [Nat.add_comm] using this
    have hLim : Lim = 5000 := rfl
    cases o with
    | none =>
      obtain ⟨fs', t2, t5, e, b, l⟩ := odd_l2 h hn2 hs hs0 (s4 := s4) (os := os) (i := i + 1) (fs := fs) (s2 := .pu (vD none)) (s5 := .pu (.leaf (.int i))) he2 hb (by omega)
      refine ⟨fs', t2, t5, ?_, b, by rw [List.length_cons]; omega⟩
      show ((gB2 [.pu (wD ps xs named), .pu (.seq true ((firstsOf (osOf ps xs)).map sD)), .pu (vD none), .ow (.seq true fs), s4, .pu (.leaf (.int i))]).bind fun o1 => match o1 with
        | .nx ρ2 => loopF (tupT 2 (consT (setF 5) (consT (setF 2) nilT))) gB2 (enumL (i + 1) (os.map vD)) ρ2
        | .ct ρ2 => loopF (tupT 2 (consT (setF 5) (consT (setF 2) nilT))) gB2 (enumL (i + 1) (os.map vD)) ρ2
        | .bk ρ2 => some (.nx ρ2)
        | .rt d => some (.rt d)) = _
      exact e
    | some ys =>
      obtain ⟨fs', t2, t5, e, b, l⟩ := odd_l2 h hn2 hs hs0 (s4 := s4) (os := os) (i := i + 1) (fs := fs ++ [.seq true (((firstsOf (osOf ps xs)).map sD).take i ++ [sD s0] ++ ((firstsOf (osOf ps xs)).map sD).drop (i + 1))]) (s2 := .pu (vD (some ys))) (s5 := .pu (.leaf (.int i))) he2 (hb.snoc (bad_at h hi (hs0 i ys hi))) (by rw [List.length_append, List.length_singleton]; omega)
      refine ⟨fs', t2, t5, ?_, b, by rw [List.length_append, List.length_singleton] at l; rw [List.length_cons]; omega⟩
      show ((gB2 [.pu (wD ps xs named), .pu (.seq true ((firstsOf (osOf ps xs)).map sD)), .pu (vD (some ys)), .ow (.seq true fs), s4, .pu (.leaf (.int i))]).bind fun o1 => match o1 with
        | .nx ρ2 => loopF (tupT 2 (consT (setF 5) (consT (setF 2) nilT))) gB2 (enumL (i + 1) (os.map vD)) ρ2
        | .ct ρ2 => loopF (tupT 2 (consT (setF 5) (consT (setF 2) nilT))) gB2 (enumL (i + 1) (os.map vD)) ρ2
        | .bk ρ2 => some (.nx ρ2)
        | .rt d => some (.rt d)) = _
      have e1 : gB2 [.pu (wD ps xs named), .pu (.seq true ((firstsOf (osOf ps xs)).map sD)), .pu (vD (some ys)), .ow (.seq true fs), s4, .pu (.leaf (.int i))] = some (.nx [.pu (wD ps xs named), .pu (.seq true ((firstsOf (osOf ps xs)).map sD)), .pu (vD (some ys)), .ow (.seq true (fs ++ [.seq true (((firstsOf (osOf ps xs)).map sD).take i ++ [sD s0] ++ ((firstsOf (osOf ps xs)).map sD).drop (i + 1))])), s4, .pu (.leaf (.int i))]) := by
        unfold gB2 ifS
        have t : asBF (bin2 (isN true) (atP 2) (kD (.leaf .non))) [.pu (wD ps xs named), .pu (.seq true ((firstsOf (osOf ps xs)).map sD)), .pu (vD (some ys)), .ow (.seq true fs), s4, .pu (.leaf (.int i))] = some true := rfl
        rw [t, Option.bind_some, if_pos rfl]
        rw [grow_ (fs := fs) rfl ?_ (by omega)]
        · rfl
        · have sp : app1 fSpare (consD (atP 0) nilD) [.pu (wD ps xs named), .pu (.seq true ((firstsOf (osOf ps xs)).map sD)), .pu (vD (some ys)), .ow (.seq true fs), s4, .pu (.leaf (.int i))] = some (.seq true ((s0 :: st).map sD)) := by
            rw [app_1 (d := wD ps xs named) rfl, spare_ok h hn2, hs]
          have i1 : i < (osOf ps xs).length := (List.getElem?_eq_some_iff.mp hi).1
          rw [bin_2 (d := .seq true (((firstsOf (osOf ps xs)).map sD).take i ++ [sD s0])) ?_ (sl_from (xs := (firstsOf (osOf ps xs)).map sD) (k := i + 1) rfl rfl), add_lst]
          · rw [List.length_append, List.length_take, List.length_drop, List.length_singleton, hn]; omega
          · rw [bin_2 (sl_to (xs := (firstsOf (osOf ps xs)).map sD) (k := i) rfl rfl) (sl_to (xs := (s0 :: st).map sD) (k := 1) sp rfl), add_lst]
            · rfl
            · rw [List.length_take, List.length_take, hn]; omega
      rw [e1]
      exact e
theorem odd_ok (h : Cols ps xs) (hn2 : named.length ≤ 50) (hs : spareL ps xs named = s0 :: st) (hs0 : ∀ (i : Nat) (ys : List Str), (osOf ps xs)[i]? = some (some ys) → s0 ∉ ys) : ∃ fs, fOdd [wD ps xs named] = some (.seq true fs) ∧ Bads C ps xs fs ∧ fs.length ≤ 100 := by
  have l1 := h.l1
  have l3 := h.l3
  have hLim : Lim = 5000 := rfl
  have hn : ((firstsOf (osOf ps xs)).map sD).length = ps.length + xs.length := by rw [List.length_map, firsts_len, os_len]
  let row := (firstsOf (osOf ps xs)).map sD
  let f0 : List D := [.seq true (row ++ [sD "a"]), .seq true (row.take (row.length - 1)), .leaf .non, .leaf (.int 5), sD "ab", .dct [] [], .seq true [], .leaf (.bl true)]
  have b0 : Bads C ps xs f0 := fun d hd => by
    simp only [f0, List.mem_cons, List.mem_nil_iff, or_false] at hd
    rcases hd with rfl | rfl | rfl | rfl | rfl | rfl | rfl | rfl
    · exact row_len (by rw [List.length_append, List.length_singleton, hn, keys_len]; omega)
    · exact row_len (by rw [List.length_take, hn, keys_len]; omega)
    · exact row_bad rfl
    · exact row_bad rfl
    · exact row_bad rfl
    · exact row_bad rfl
    · exact row_len (by rw [List.length_nil, keys_len]; omega)
    · exact row_bad rfl
  obtain ⟨f1, t4, e1, b1, l4⟩ := odd_l1 (named := named) h (s2 := .un) (s5 := .un) (ds := oddFs) (fs := f0) (s4 := .un) (fun d hd => hd) b0 (by show 8 + 7 < 100; decide)
  obtain ⟨f2, t2, t5, e2, b2, l5⟩ := odd_l2 (C := C) h hn2 hs hs0 (s4 := t4) (os := osOf ps xs) (i := 0) (fs := f1) (s2 := .un) (s5 := .un) (List.drop_zero) b1 (by rw [l4, os_len]; show 8 + 7 + _ < 100; omega)
  refine ⟨f2, ?_, b2, by rw [l4, os_len] at l5; have : f0.length + oddFs.length = 15 := rfl; omega⟩
  show runF nOdd.length FOdd [wD ps xs named] = _
  refine run_rt ?_
  show seqF _ _ [.pu (wD ps xs named), .un, .un, .un, .un, .un] = _
  refine (seq_nx (ρ2 := [.pu (wD ps xs named), .pu (.seq true row), .un, .un, .un, .un]) ?_).trans ?_
  · refine (asg_ (d := .seq true row) (maps_ ?_)).trans rfl
    rw [lc_ (ds := (osOf ps xs).map vD) (by show some (valsOf ps xs) = _; rw [vals_os]) (by rw [List.length_map, os_len]; omega)]
    rw [comp_map (g := fun d => match d with
      | .seq false (x :: _) => x
      | _ => sD "zz") fun d hd => ?_]
    · show some _ = some ((firstsOf (osOf ps xs)).map sD)
      unfold firstsOf
      rw [List.map_map, List.map_map]
      congr 1
      apply List.map_congr_left
      intro o ho
      cases o with
      | none => rfl
      | some ys =>
        cases ys with
        | nil => exact absurd rfl (os_good h _ ho [] rfl).1
        | cons y ys => rfl
    · obtain ⟨o, ho, rfl⟩ := List.mem_map.mp hd
      refine ⟨[.pu (wD ps xs named), .un, .pu (vD o), .un, .un, .un], rfl, rfl, ?_⟩
      rw [first_0 (o := o) rfl fun ys e => (os_good h o ho ys e).1]
      cases o with
      | none => rfl
      | some ys =>
        cases ys with
        | nil => exact absurd rfl (os_good h _ ho [] rfl).1
        | cons y ys => rfl
  · refine (seq_nx (ρ2 := [.pu (wD ps xs named), .pu (.seq true row), .un, .ow (.seq true f0), .un, .un]) ?_).trans ?_
    · have a : bin2 addD (atP 1) (mapS (lstDisp (consD (kD (.leaf (.str "a"))) nilD))) [.pu (wD ps xs named), .pu (.seq true row), .un, .un, .un, .un] = some (.seq true (row ++ [sD "a"])) := by
        rw [bin_2 (d := .seq true row) (e := .seq true [sD "a"]) rfl rfl, add_lst]
        rw [List.length_singleton, show row.length = ps.length + xs.length from hn]; omega
      have m := sl_m1 (φ := atP 1) (ψ := slF slT (atP 1) (fun _ => some none) (partF (negF (kD (.leaf (.int 1)))))) (ρ := [.pu (wD ps xs named), .pu (.seq true row), .un, .un, .un, .un]) (xs := row) rfl (by rw [show row.length = ps.length + xs.length from hn]; omega)
      have c : lstDisp (consD (bin2 addD (atP 1) (mapS (lstDisp (consD (kD (.leaf (.str "a"))) nilD)))) (consD (orE (mapS (slF slO (atP 1) (fun _ => some none) (partF (negF (kD (.leaf (.int 1))))))) (slF slT (atP 1) (fun _ => some none) (partF (negF (kD (.leaf (.int 1))))))) (consD (kD (.leaf .non)) (consD (kD (.leaf (.int 5))) (consD (kD (.leaf (.str "ab"))) (consD (kD (.dct [] [])) (consD (mapS (lstDisp nilD)) (consD (kD (.leaf (.bl true))) nilD)))))))) [.pu (wD ps xs named), .pu (.seq true row), .un, .un, .un, .un] = some f0 := by
        exact lst_ (cons_ a (cons_ m rfl)) (by show (8 : Nat) ≤ Lim; decide)
      unfold asgO
      rw [c]; rfl
    · refine (seq_nx (by exact e1)).trans ?_
      refine (seq_nx (ρ2 := _) (by
        show loopF _ gB2 (enumL 0 (valsOf ps xs)) _ = _
        rw [vals_os]
        exact e2)).trans ?_
      rfl
end
end L2.K1

namespace L2.K1
open PySem PySem.Spec PyProof.Rows L2.Tr
theorem loop_inv {θ : D → L2.Tr.Env → Option L2.Tr.Env} {Φ : L2.Tr.Env → Option Out} (S : L2.Tr.Env → Prop) : ∀ {ds : List D} {ρ : L2.Tr.Env}, (∀ d ∈ ds, ∀ ρ, S ρ → ∃ ρ1 ρ2, θ d ρ = some ρ1 ∧ Φ ρ1 = some (.nx ρ2) ∧ S ρ2) → S ρ → ∃ ρ', loopF θ Φ ds ρ = some (.nx ρ') ∧ S ρ'
  | [], ρ, _, hs => ⟨ρ, rfl, hs⟩
  | d :: ds, ρ, h, hs => by
    obtain ⟨ρ1, ρ2, e1, e2, h2⟩ := h d List.mem_cons_self ρ hs
    obtain ⟨ρ', e3, h3⟩ := loop_inv S (fun x hx => h x (List.mem_cons_of_mem _ hx)) h2
    refine ⟨ρ', ?_, h3⟩
    unfold loopF
    rw [e1, Option.bind_some, e2, Option.bind_some]
    exact e3
theorem skip_if {t : L2.Tr.Env → Option Bool} {Φa : L2.Tr.Env → Option Out} {ρ : L2.Tr.Env} (h : t ρ = some false) : ifS t Φa skipF ρ = some (.nx ρ) := by
  unfold ifS
  rw [h]; rfl
section
variable {C : Addr} {ps : List (Str × List Str)} {xs named : List Str} {s0 : Str} {st : List Str}
theorem row_yes (h : Cols ps xs) {t : List Str} (ht : Paired Fits (osOf ps xs) t) (b : Bool) : fIsRow C [colV C ps xs, .seq b (t.map sD)] = some (bD true) := by
  have hl : t.length = (keysOf ps xs).length := by rw [keys_len, ← os_len]; exact (Paired.length ht).symm
  have l3 := h.l3
  rw [row_ok (c := fun q => canB q.2 q.1) (by rw [List.length_map]; exact hl) (by rw [List.length_map, hl, keys_len]; exact l3) (plain_strs t) fun q hq => ?_]
  · congr 2
    rw [List.all_eq_true]
    intro q hq
    obtain ⟨v, d⟩ := q
    rw [vals_os] at hq
    have gen : ∀ {os : List (Option (List Str))} {t : List Str}, Paired Fits os t → ∀ v d, (v, d) ∈ (os.map vD).zip (t.map sD) → canB d v = true := fun {os t} p => by
      induction p with
      | nil => intro v d hm; cases hm
      | @cons o x os t hf p ih =>
        intro v d hm
        rw [List.map_cons, List.map_cons, List.zip_cons_cons] at hm
        rcases List.mem_cons.mp hm with q | q
        · cases q
          unfold canB
          cases o with
          | none =>
            show (match fCan [sD x, .leaf .non] with | some (.leaf (.bl b)) => b | _ => false) = true
            rw [can_free, hf.1]; rfl
          | some ys =>
            show (match fCan [sD x, .seq false (ys.map sD)] with | some (.leaf (.bl b)) => b | _ => false) = true
            rw [can_told, hf.1, decide_eq_true (hf.2 ys rfl)]; rfl
        · exact ih v d q
    exact gen ht v d hq
  · obtain ⟨v, d⟩ := q
    have hv := (List.of_mem_zip hq).1
    rw [vals_os] at hv
    obtain ⟨o', _, rfl⟩ := List.mem_map.mp hv
    obtain ⟨x, _, rfl⟩ := List.mem_map.mp (List.of_mem_zip hq).2
    obtain ⟨bb, hb⟩ := (can_strD x).2 o'
    show fCan [sD x, vD o'] = some (bD (canB (sD x) (vD o')))
    unfold canB
    rw [hb]; rfl
theorem tv_cs (h : Cols ps xs) {c : Col} (hc : c ∈ csOf ps xs) : fTV C [colV C ps xs, sD c.1] = some (vD c.2) ∧ c.1 ∈ keysOf ps xs := by
  obtain ⟨i, hi⟩ := List.mem_iff_getElem?.mp hc
  have k : keysOf ps xs = (csOf ps xs).map (·.1) := by
    unfold keysOf csOf
    rw [List.map_append, List.map_map, List.map_map]
    congr 1
    exact (List.map_id _).symm
  have v : valsOf ps xs = (csOf ps xs).map fun c => vD c.2 := by
    unfold valsOf csOf
    rw [List.map_append, List.map_map, List.map_map]
    rfl
  have e1 : (keysOf ps xs)[i]? = some c.1 := by rw [k, List.getElem?_map, hi]; rfl
  exact ⟨tv_ok h e1 (by rw [v, List.getElem?_map, hi]; rfl), List.mem_of_getElem? e1⟩
theorem met_ {m : Str} {f : List D → Option D} {φ : L2.Tr.Env → Option D} {ψ : L2.Tr.Env → Option (List D)} {ρ : L2.Tr.Env} {ds : List D} (hm : m ∉ (["_values"] : List Str)) (h : φ ρ = some (colV C ps xs)) (h2 : ψ ρ = some ds) : metF C m f φ ψ ρ = f (colV C ps xs :: ds) := by
  unfold metF
  rw [h, Option.bind_some, h2, Option.bind_some]
  exact if_pos ⟨rfl, hm⟩
theorem con_ {neg : Bool} {f : List D → Option D} {φ ψ : L2.Tr.Env → Option D} {ρ : L2.Tr.Env} {d : D} {b : Bool} (h : φ ρ = some d) (h2 : ψ ρ = some (colV C ps xs)) (hf : f [colV C ps xs, d] = some (bD b)) : bin2 (conD neg C f) φ ψ ρ = some (bD (neg != b)) := by
  rw [bin_2 h h2]
  show (if C = C then ((f [colV C ps xs, d]).bind asB).map (fun b => bD (neg != b)) else none) = _
  rw [if_pos rfl, hf]; rfl
theorem len_of {f : List D → Option D} {n : Nat} (h : f [colV C ps xs] = some (.leaf (.int n))) (hn : n ≤ 1000) : lenOD C f [colV C ps xs] = some (.leaf (.int n)) := by
  have hn2 : 0 ≤ (n : Int) ∧ (n : Int) < 2 ^ 63 := by constructor <;> omega
  unfold lenOD colV
  dsimp only
  rw [if_pos rfl]
  unfold colV at h
  rw [h, Option.bind_some, show asI (D.leaf (.int n)) = some (n : Int) from rfl, Option.bind_some]
  exact if_pos hn2
/-- what stands while the law looks -/
def Sh (col w : D) (ρ : L2.Tr.Env) : Prop := ∃ s2 s3 s4 s5 s6 s7, ρ = [.pu col, .pu w, s2, s3, s4, s5, s6, s7]
theorem shows_ok (g : List D → Option D) (h : Cols ps xs) (hn2 : named.length ≤ 2) (hnw : ∀ x ∈ named, isW x = true) (hs : spareL ps xs named = s0 :: st) (hsw : ∀ x ∈ s0 :: st, isW x = true ∧ x ∉ keysOf ps xs ∧ ∀ (i : Nat) (ys : List Str), (osOf ps xs)[i]? = some (some ys) → x ∉ ys) :
    fShows C (fNames C) (fTV C) (fIsRow C) (fLen C) (fIn C) (fSame (fSame g)) [colV C ps xs, wD ps xs named] = some (bD true) := by
  have l1 := h.l1
  have l3 := h.l3
  have hLim : Lim = 5000 := rfl
  have hk := keys_len (ps := ps) (xs := xs)
  show runF nShows.length (FShows C (fNames C) (fTV C) (fIsRow C) (fLen C) (fIn C) (fSame (fSame g))) [colV C ps xs, wD ps xs named] = _
  refine run_rt ?_
  show seqF _ _ [.pu (colV C ps xs), .pu (wD ps xs named), .un, .un, .un, .un, .un, .un] = _
  -- names
  have L1 : ∃ ρ', forF (rngF (kD (.leaf (.int 2)))) (setF 2) (seqF (asgO 3 (metFO C "names" (fNames C) (atP 0))) (seqF (ifS (orB (notB (truF (app1 (fun ds => leafOf (fSame (fSame g) ds)) (consD (atV 3) (consD (bin2 dgD (atP 1) (kD (.leaf (.str "names")))) nilD))))) (asBF (bin2 (scD true) (app1 (lenOD C (fLen C)) (consD (atP 0) nilD)) (app1 lenA (consD (atV 3) nilD))))) (retF (kD (.leaf (.bl false)))) skipF) (growF 3 (kD (.leaf (.str "more"))) fun xs d => xs ++ [d]))) [.pu (colV C ps xs), .pu (wD ps xs named), .un, .un, .un, .un, .un, .un] = some (.nx ρ') ∧ Sh (colV C ps xs) (wD ps xs named) ρ' := by
    refine loop_inv (Sh (colV C ps xs) (wD ps xs named)) ?_ ⟨_, _, _, _, _, _, rfl⟩
    rintro d - ρ ⟨s2, s3, s4, s5, s6, s7, rfl⟩
    refine ⟨[.pu (colV C ps xs), .pu (wD ps xs named), .pu d, s3, s4, s5, s6, s7], [.pu (colV C ps xs), .pu (wD ps xs named), .pu d, .ow (.seq true ((keysOf ps xs).map sD ++ [sD "more"])), s4, s5, s6, s7], rfl, ?_, ⟨_, _, _, _, _, _, rfl⟩⟩
    refine (seq_nx (ρ2 := [.pu (colV C ps xs), .pu (wD ps xs named), .pu d, .ow (.seq true ((keysOf ps xs).map sD)), s4, s5, s6, s7]) ?_).trans ?_
    · have e : metFO C "names" (fNames C) (atP 0) [.pu (colV C ps xs), .pu (wD ps xs named), .pu d, s3, s4, s5, s6, s7] = some ((keysOf ps xs).map sD) := by
        show (if C = C ∧ ("names" : Str) ∉ (["_values"] : List Str) then fNames C [colV C ps xs] else none) = _
        rw [if_pos ⟨rfl, by decide +kernel⟩, names_ok h]
      unfold asgO
      rw [e]; rfl
    · rw [seq_if_f]
      · rw [grow_ (fs := (keysOf ps xs).map sD) (d := sD "more") rfl rfl (by rw [List.length_map, hk]; omega)]
        rfl
      · rw [orB_f]
        · refine asB_ (b := false) ?_
          rw [bin_2 (d := .leaf (.int (keysOf ps xs).length)) (e := .leaf (.int (keysOf ps xs).length)) ?_ ?_]
          · show some (bD (xor true (decide (V.int (keysOf ps xs).length = V.int (keysOf ps xs).length)))) = _
            rw [decide_eq_true rfl]; rfl
          · rw [app_1 (d := colV C ps xs) rfl]
            exact len_of len_ok (by rw [hk]; omega)
          · rw [app_1 (d := .seq true ((keysOf ps xs).map sD)) rfl]
            show some (D.leaf (.int ((keysOf ps xs).map sD).length)) = _
            rw [List.length_map]
        · refine notB_ (b := true) (truB ?_)
          rw [app_2 (d := .seq true ((keysOf ps xs).map sD)) (e := .seq true ((keysOf ps xs).map sD)) rfl rfl]
          show leafOf (fSame (fSame g) [.seq true ((keysOf ps xs).map sD), .seq true ((keysOf ps xs).map sD)]) = _
          rw [same_strs g true (by rw [hk]; omega)]; rfl
  obtain ⟨ρ1, e1, s2, s3, s4, s5, s6, s7, rfl⟩ := L1
  refine (seq_nx (by exact e1)).trans ?_
  -- told values
  have L2 : ∃ ρ', forF (zipF (bin2 dgD (atP 1) (kD (.leaf (.str "names")))) (bin2 dgD (atP 1) (kD (.leaf (.str "values"))))) (tupT 2 (consT (setF 4) (consT (setF 5) nilT))) (ifS (orB (notB (truF (app1 (fun ds => leafOf (fSame (fSame g) ds)) (consD (metF C "told_values" (fTV C) (atP 0) (consD (atP 4) nilD)) (consD (atP 5) nilD))))) (asBF (bin2 (conD true C (fIn C)) (atP 4) (atP 0)))) (retF (kD (.leaf (.bl false)))) skipF) [.pu (colV C ps xs), .pu (wD ps xs named), s2, s3, s4, s5, s6, s7] = some (.nx ρ') ∧ Sh (colV C ps xs) (wD ps xs named) ρ' := by
    have z : zipF (bin2 dgD (atP 1) (kD (.leaf (.str "names")))) (bin2 dgD (atP 1) (kD (.leaf (.str "values")))) [.pu (colV C ps xs), .pu (wD ps xs named), s2, s3, s4, s5, s6, s7] = some (pairsOf ps xs) := by
      unfold zipF
      rw [bin_2 (d := .seq true ((keysOf ps xs).map sD)) (e := .seq true (valsOf ps xs)) rfl rfl]
      show (if true = true then some (zipL ((keysOf ps xs).map sD) (valsOf ps xs)) else none) = _
      rw [if_pos rfl, zip_w]
    unfold forF
    rw [z, Option.bind_some]
    refine loop_inv (Sh (colV C ps xs) (wD ps xs named)) ?_ ⟨_, _, _, _, _, _, rfl⟩
    rintro d hd ρ ⟨s2, s3, s4, s5, s6, s7, rfl⟩
    obtain ⟨c, hc, rfl⟩ := List.mem_map.mp hd
    obtain ⟨tv, km⟩ := tv_cs (C := C) h hc
    obtain ⟨n, o⟩ := c
    refine ⟨[.pu (colV C ps xs), .pu (wD ps xs named), s2, s3, .pu (sD n), .pu (vD o), s6, s7], _, rfl, skip_if ?_, ⟨_, _, _, _, _, _, rfl⟩⟩
    rw [orB_f]
    · refine asB_ (b := false) ?_
      rw [con_ (d := sD n) (b := true) rfl rfl (by rw [in_str, decide_eq_true km])]
      rfl
    · refine notB_ (b := true) (truB ?_)
      have e := met_ (C := C) (ps := ps) (xs := xs) (m := "told_values") (f := fTV C) (φ := atP 0) (ψ := consD (atP 4) nilD) (ρ := [.pu (colV C ps xs), .pu (wD ps xs named), s2, s3, .pu (sD n), .pu (vD o), s6, s7]) (ds := [sD n]) (by decide +kernel) rfl rfl
      rw [app_2 (d := vD o) (e := vD o) (e.trans tv) rfl]
      show leafOf (fSame (fSame g) [vD o, vD o]) = _
      cases o with
      | none => rfl
      | some ys =>
        show leafOf (fSame (fSame g) [.seq false (ys.map sD), .seq false (ys.map sD)]) = _
        have : ys.length ≤ 3 := by
          rcases List.mem_append.mp hc with q | q
          · obtain ⟨p, hp, e⟩ := List.mem_map.mp q
            cases e; exact (h.t p hp).v.hi
          · obtain ⟨p, hp, e⟩ := List.mem_map.mp q
            cases e
        rw [same_strs g false (by omega)]; rfl
  obtain ⟨ρ2, e2, t2, t3, t4, t5, t6, t7, rfl⟩ := L2
  refine (seq_nx (by exact e2)).trans ?_
  -- things that stand in no columns
  obtain ⟨k0, ks, hks⟩ : ∃ k0 ks, keysOf ps xs = k0 :: ks := by
    cases e : keysOf ps xs with
    | nil => rw [e] at hk; simp at hk; omega
    | cons k ks => exact ⟨k, ks, rfl⟩
  let ths : List D := [sD "", sD "number", .leaf (.int 5), .leaf .non, .seq true [sD k0], .seq false [], .dct [] [], .leaf (.bl true), sD s0]
  have hth : ∀ d ∈ ths, fIn C [colV C ps xs, d] = some (bD false) := fun d hd => by
    simp only [ths, List.mem_cons, List.mem_nil_iff, or_false] at hd
    rcases hd with rfl | rfl | rfl | rfl | rfl | rfl | rfl | rfl | rfl
    · rw [in_str, decide_eq_false fun z => by have := (h.nm _ z).w; exact absurd this (by decide +kernel)]
    · rw [in_str, decide_eq_false fun z => (h.nm _ z).n rfl]
    · exact in_bad rfl
    · exact in_bad rfl
    · exact in_bad rfl
    · exact in_bad rfl
    · exact in_bad rfl
    · exact in_bad rfl
    · rw [in_str, decide_eq_false (hsw s0 List.mem_cons_self).2.1]
  have sp : ∀ ρ : L2.Tr.Env, atP 1 ρ = some (wD ps xs named) → app1 fSpare (consD (atP 1) nilD) ρ = some (.seq true ((s0 :: st).map sD)) := fun ρ e => by
    rw [app_1 e, spare_ok h (by omega), hs]
  have L3 : ∃ ρ', forF (seqsF (mapS (lstDisp (consD (kD (.leaf (.str ""))) (consD (kD (.leaf (.str "number"))) (consD (kD (.leaf (.int 5))) (consD (kD (.leaf .non)) (consD (mapS (lstDisp (consD (bin2 ixD (bin2 dgD (atP 1) (kD (.leaf (.str "names")))) (kD (.leaf (.int 0)))) nilD))) (consD (tupDisp nilD) (consD (kD (.dct [] [])) (consD (kD (.leaf (.bl true))) (consD (bin2 ixD (app1 fSpare (consD (atP 1) nilD)) (kD (.leaf (.int 0)))) nilD)))))))))))) (setF 6) (ifS (asBF (bin2 (conD false C (fIn C)) (atP 6) (atP 0))) (retF (kD (.leaf (.bl false)))) skipF) [.pu (colV C ps xs), .pu (wD ps xs named), t2, t3, t4, t5, t6, t7] = some (.nx ρ') ∧ Sh (colV C ps xs) (wD ps xs named) ρ' := by
    have z : seqsF (mapS (lstDisp (consD (kD (.leaf (.str ""))) (consD (kD (.leaf (.str "number"))) (consD (kD (.leaf (.int 5))) (consD (kD (.leaf .non)) (consD (mapS (lstDisp (consD (bin2 ixD (bin2 dgD (atP 1) (kD (.leaf (.str "names")))) (kD (.leaf (.int 0)))) nilD))) (consD (tupDisp nilD) (consD (kD (.dct [] [])) (consD (kD (.leaf (.bl true))) (consD (bin2 ixD (app1 fSpare (consD (atP 1) nilD)) (kD (.leaf (.int 0)))) nilD))))))))))) [.pu (colV C ps xs), .pu (wD ps xs named), t2, t3, t4, t5, t6, t7] = some ths := by
      have n0 : bin2 ixD (bin2 dgD (atP 1) (kD (.leaf (.str "names")))) (kD (.leaf (.int 0))) [.pu (colV C ps xs), .pu (wD ps xs named), t2, t3, t4, t5, t6, t7] = some (sD k0) := by
        rw [bin_2 (d := .seq true ((k0 :: ks).map sD)) (e := .leaf (.int 0)) (by rw [← hks]; rfl) rfl]
        show atI ((k0 :: ks).map sD) 0 = _
        unfold L2.atI L2.ixN
        simp
      have n1 : bin2 ixD (app1 fSpare (consD (atP 1) nilD)) (kD (.leaf (.int 0))) [.pu (colV C ps xs), .pu (wD ps xs named), t2, t3, t4, t5, t6, t7] = some (sD s0) := by
        rw [bin_2 (d := .seq true ((s0 :: st).map sD)) (e := .leaf (.int 0)) (sp _ rfl) rfl]
        show atI ((s0 :: st).map sD) 0 = _
        unfold L2.atI L2.ixN
        simp
      have c := lst_ (ψ := consD (kD (.leaf (.str ""))) (consD (kD (.leaf (.str "number"))) (consD (kD (.leaf (.int 5))) (consD (kD (.leaf .non)) (consD (mapS (lstDisp (consD (bin2 ixD (bin2 dgD (atP 1) (kD (.leaf (.str "names")))) (kD (.leaf (.int 0)))) nilD))) (consD (tupDisp nilD) (consD (kD (.dct [] [])) (consD (kD (.leaf (.bl true))) (consD (bin2 ixD (app1 fSpare (consD (atP 1) nilD)) (kD (.leaf (.int 0)))) nilD)))))))))
        (cons_ rfl (cons_ rfl (cons_ rfl (cons_ rfl (cons_ (maps_ (lst_ (cons_ n0 rfl) (by show (1 : Nat) ≤ Lim; decide))) (cons_ rfl (cons_ rfl (cons_ rfl (cons_ n1 rfl))))))))) (by show (9 : Nat) ≤ Lim; decide)
      unfold seqsF
      rw [maps_ c]
      rfl
    unfold forF
    rw [z, Option.bind_some]
    refine loop_inv (Sh (colV C ps xs) (wD ps xs named)) ?_ ⟨_, _, _, _, _, _, rfl⟩
    rintro d hd ρ ⟨s2, s3, s4, s5, s6, s7, rfl⟩
    refine ⟨[.pu (colV C ps xs), .pu (wD ps xs named), s2, s3, s4, s5, .pu d, s7], _, rfl, skip_if ?_, ⟨_, _, _, _, _, _, rfl⟩⟩
    refine asB_ (b := false) ?_
    rw [con_ (d := d) (b := false) rfl rfl (hth d hd)]
    rfl
  obtain ⟨ρ3, e3, u2, u3, u4, u5, u6, u7, rfl⟩ := L3
  refine (seq_nx (by exact e3)).trans ?_
  -- rows
  have L4 : ∃ ρ', forF (seqsF (app1 fLetters (consD (atP 1) nilD))) (setF 7) (ifS (orB (notB (truF (metF C "is_row" (fIsRow C) (atP 0) (consD (atP 7) nilD)))) (notB (truF (metF C "is_row" (fIsRow C) (atP 0) (consD (mapS (app1 lstA (consD (atP 7) nilD))) nilD))))) (retF (kD (.leaf (.bl false)))) skipF) [.pu (colV C ps xs), .pu (wD ps xs named), u2, u3, u4, u5, u6, u7] = some (.nx ρ') ∧ Sh (colV C ps xs) (wD ps xs named) ρ' := by
    have z : seqsF (app1 fLetters (consD (atP 1) nilD)) [.pu (colV C ps xs), .pu (wD ps xs named), u2, u3, u4, u5, u6, u7] = some (rowsD (rowsOf named (s0 :: st) (osOf ps xs) [[]])) := by
      unfold seqsF
      rw [app_1 (d := wD ps xs named) rfl, letters_ok h hn2 hs]; rfl
    unfold forF
    rw [z, Option.bind_some]
    refine loop_inv (Sh (colV C ps xs) (wD ps xs named)) ?_ ⟨_, _, _, _, _, _, rfl⟩
    rintro d hd ρ ⟨s2, s3, s4, s5, s6, s7, rfl⟩
    obtain ⟨r, hr, rfl⟩ := List.mem_map.mp hd
    obtain ⟨r0, h0, t, rfl, pt⟩ := rows_fit hnw (fun x hx => (hsw x hx).1) (fun o ho ys e x hx => by
      rcases List.mem_append.mp ho with q | q
      · obtain ⟨p, hp, e2⟩ := List.mem_map.mp q
        rw [← e2] at e; cases e; exact (h.t p hp).v.ws x hx
      · obtain ⟨p, hp, e2⟩ := List.mem_map.mp q
        rw [← e2] at e; cases e) r hr
    rw [List.mem_singleton.mp h0, List.nil_append]
    refine ⟨[.pu (colV C ps xs), .pu (wD ps xs named), s2, s3, s4, s5, s6, .pu (.seq false (t.map sD))], _, rfl, skip_if ?_, ⟨_, _, _, _, _, _, rfl⟩⟩
    rw [orB_f]
    · refine notB_ (b := true) (truB ?_)
      rw [met_ (ps := ps) (xs := xs) (ds := [.seq true (t.map sD)]) (by decide +kernel) rfl rfl]
      exact row_yes h pt true
    · refine notB_ (b := true) (truB ?_)
      rw [met_ (ps := ps) (xs := xs) (ds := [.seq false (t.map sD)]) (by decide +kernel) rfl rfl]
      exact row_yes h pt false
  obtain ⟨ρ4, e4, v2, v3, v4, v5, v6, v7, rfl⟩ := L4
  refine (seq_nx (by exact e4)).trans ?_
  -- what is no row
  obtain ⟨fs, of, ob, ol⟩ := odd_ok (C := C) h (named := named) (by omega) hs fun i ys e => (hsw s0 List.mem_cons_self).2.2 i ys e
  refine ret_f ?_
  have c : lcF [6] (seqsF (app1 fOdd (consD (atP 1) nilD))) (setF 6) yesF (metF C "is_row" (fIsRow C) (atP 0) (consD (atP 6) nilD)) [.pu (colV C ps xs), .pu (wD ps xs named), v2, v3, v4, v5, v6, v7] = some (fs.map fun _ => bD false) := by
    rw [lc_ (ds := fs) (by unfold seqsF; rw [app_1 (d := wD ps xs named) rfl, of]; rfl) (by omega)]
    refine comp_map fun d hd => ?_
    refine ⟨[.pu (colV C ps xs), .pu (wD ps xs named), v2, v3, v4, v5, .pu d, v7], rfl, rfl, ?_⟩
    rw [met_ (ps := ps) (xs := xs) (ds := [d]) (by decide +kernel) rfl rfl]
    exact ob d hd
  unfold notF
  rw [app_1 (maps_ c), any_map (fun _ => false)]
  have : fs.any (fun _ => false) = false := by rw [List.any_eq_false]; exact fun _ _ => Bool.false_ne_true
  rw [this]
  rfl
end
end L2.K1

namespace L2.K1
open PySem PySem.Spec PyProof.Rows L2.Tr
def pD (p : Str × List Str) : D := .seq false [sD p.1, .seq false (p.2.map sD)]
theorem pairs_pD : ∀ ps : List (Str × List Str), Paired PairIs (ps.map pD) ps
  | [] => .nil
  | p :: ps => .cons ⟨false, false, rfl⟩ (pairs_pD ps)
section
variable {C : Addr} {ps ps' : List (Str × List Str)} {xs xs' named : List Str} {s0 : Str} {st : List Str}
theorem mk_ok {b bf : Bool} (h : Cols ps xs) : mkD C (fInit C) [.seq b (ps.map pD), .seq bf (xs.map sD)] = some (colV C ps xs) := init_ok h (pairs_pD ps)
theorem eqO_ok (neg : Bool) (h : Cols ps xs) (h' : Cols ps' xs') : eqOD neg C (fEq C) (colV C ps xs) (colV C ps' xs') = some (bD (xor neg (decide (csOf ps xs = csOf ps' xs')))) := by
  have e := eq_ok (C := C) h h'
  unfold colV at e ⊢
  unfold eqOD
  dsimp only
  rw [if_pos ⟨rfl, by unfold okOther; simp⟩, e]; rfl
theorem cs_inj (h : csOf ps xs = csOf ps' xs) : ps = ps' := by
  unfold csOf at h
  have h1 := List.append_cancel_right h
  have inj : ∀ {as bs : List (Str × List Str)}, as.map (fun p => ((p.1, some p.2) : Col)) = bs.map (fun p => (p.1, some p.2)) → as = bs := fun {as} => by
    induction as with
    | nil => intro bs e; cases bs with
      | nil => rfl
      | cons b bs => cases e
    | cons a as ih =>
      intro bs e
      cases bs with
      | nil => cases e
      | cons b bs =>
        rw [List.map_cons, List.map_cons] at e
        injection e with e1 e2
        obtain ⟨a1, a2⟩ := a
        obtain ⟨b1, b2⟩ := b
        have f1 := congrArg Prod.fst e1
        have f2 := congrArg Prod.snd e1
        simp only at f1 f2
        cases f1; cases f2
        rw [ih e2]
  exact inj h1
theorem Cols.swap {a b : List (Str × List Str)} {p q : Str × List Str} (h : Cols (a ++ p :: b) xs) (hq : Told q) (hn : q.1 = p.1 ∨ q.1 ∉ keysOf (a ++ p :: b) xs) : Cols (a ++ q :: b) xs := by
  refine ⟨fun r hr => ?_, h.f, ?_, ?_, h.l2, ?_⟩
  · rcases List.mem_append.mp hr with z | z
    · exact h.t r (List.mem_append_left _ z)
    · rcases List.mem_cons.mp z with z | z
      · rw [z]; exact hq
      · exact h.t r (List.mem_append_right _ (List.mem_cons_of_mem _ z))
  · have nd := h.nd
    rcases hn with z | z
    · have e : (a ++ q :: b).map (·.1) = (a ++ p :: b).map (·.1) := by rw [List.map_append, List.map_append, List.map_cons, List.map_cons, z]
      rw [e]; exact nd
    · unfold keysOf at z
      rw [List.map_append, List.map_cons, List.append_assoc, List.cons_append] at nd z ⊢
      rw [(List.perm_middle).nodup_iff, List.nodup_cons] at nd ⊢
      refine ⟨fun w => z ?_, nd.2⟩
      rcases List.mem_append.mp w with w | w
      · exact List.mem_append_left _ w
      · exact List.mem_append_right _ (List.mem_cons_of_mem _ w)
  · have := h.l3
    rw [List.length_append, List.length_cons] at this ⊢
    exact this
  · have := h.l1
    rw [List.length_append, List.length_cons] at this ⊢
    exact this
theorem swap_eq {a b : List (Str × List Str)} {p q : Str × List Str} : (csOf (a ++ p :: b) xs = csOf (a ++ q :: b) xs) ↔ p = q := by
  refine ⟨fun h => ?_, fun h => by rw [h]⟩
  have := List.append_cancel_left (cs_inj h)
  injection this
theorem rev_eq {vs : List Str} (h : Vals vs) : (vs.reverse = vs) ↔ vs.length = 1 := by
  have l1 := h.lo
  have l3 := h.hi
  have nd := h.nd
  match vs, l1, l3, nd with
  | [x], _, _, _ => simp
  | [x, y], _, _, nd =>
    have : x ≠ y := by
      rw [List.nodup_cons] at nd
      exact fun z => nd.1 (by rw [z]; exact List.mem_cons_self)
    simp [this, this.symm]
  | [x, y, z], _, _, nd =>
    have : x ≠ z := by
      rw [List.nodup_cons] at nd
      exact fun w => nd.1 (by rw [w]; simp)
    simp [this, this.symm]
theorem Vals.rev {vs : List Str} (h : Vals vs) : Vals vs.reverse :=
  ⟨by rw [List.length_reverse]; exact h.lo, by rw [List.length_reverse]; exact h.hi, fun x hx => h.ws x (List.mem_reverse.mp hx), by
    have : vs.reverse.Perm vs := List.reverse_perm vs
    rw [this.nodup_iff]; exact h.nd⟩
theorem Cols.rev (h : Cols ps xs) : Cols ps.reverse xs := by
  refine ⟨fun p hp => h.t p (List.mem_reverse.mp hp), h.f, ?_, by rw [List.length_reverse]; exact h.l3, h.l2, by rw [List.length_reverse]; exact h.l1⟩
  have e : (ps.reverse.map (·.1) ++ xs).Perm (ps.map (·.1) ++ xs) := by
    refine List.Perm.append_right _ ?_
    rw [List.map_reverse]
    exact List.reverse_perm _
  rw [e.nodup_iff]
  exact h.nd
theorem Cols.revF (h : Cols ps xs) : Cols ps xs.reverse := by
  refine ⟨h.t, fun x hx => h.f x (List.mem_reverse.mp hx), ?_, by rw [List.length_reverse]; exact h.l3, by rw [List.length_reverse]; exact h.l2, by rw [List.length_reverse]; exact h.l1⟩
  have e : (ps.map (·.1) ++ xs.reverse).Perm (ps.map (·.1) ++ xs) := List.Perm.append_left _ (List.reverse_perm _)
  rw [e.nodup_iff]
  exact h.nd
theorem rev_ne {α : Type} {l : List α} (nd : l.Nodup) (h : 1 < l.length) : l.reverse ≠ l := fun e => by
  cases l with
  | nil => simp at h
  | cons a t =>
    have ht : t ≠ [] := fun z => by rw [z] at h; simp at h
    have e1 : (a :: t).reverse.head? = some (t.getLast ht) := by
      rw [List.head?_reverse, List.getLast?_cons, List.getLast?_eq_getLast ht]; rfl
    rw [e] at e1
    have : a = t.getLast ht := Option.some.inj e1
    exact (List.nodup_cons.mp nd).1 (this ▸ List.getLast_mem ht)
end
end L2.K1

namespace L2.K1
open PySem PySem.Spec PyProof.Rows L2.Tr
theorem enum_mem {ds : List D} {d : D} (h : d ∈ enumL 0 ds) : ∃ i x, ds[i]? = some x ∧ d = .seq false [.leaf (.int (i : Nat)), x] := by
  obtain ⟨i, hi⟩ := List.mem_iff_getElem?.mp h
  have hl : i < (enumL 0 ds).length := (List.getElem?_eq_some_iff.mp hi).1
  rw [enum_len] at hl
  have e := enum_get (j := 0) (List.getElem?_eq_getElem hl)
  rw [hi] at e
  refine ⟨i, _, List.getElem?_eq_getElem hl, ?_⟩
  have := Option.some.inj e
  rw [Nat.zero_add] at this
  exact this
theorem tup_ {ψ : L2.Tr.Env → Option (List D)} {ρ : L2.Tr.Env} {ds : List D} (h : ψ ρ = some ds) (hl : ds.length ≤ Lim) : tupDisp ψ ρ = some (.seq false ds) := by
  show (ψ ρ).bind (fun ds => if ds.length ≤ Lim then some (D.seq false ds) else none) = _
  rw [h, Option.bind_some, if_pos hl]
theorem rev_l {φ : L2.Tr.Env → Option D} {ρ : L2.Tr.Env} {xs : List D} (h : φ ρ = some (.seq true xs)) : orE (mapS (revO φ)) (revT φ) ρ = some (.seq true xs.reverse) := by
  have e : revO φ ρ = some xs.reverse := by unfold revO; rw [h]; rfl
  unfold orE
  rw [maps_ e]; rfl
theorem rev_t {φ : L2.Tr.Env → Option D} {ρ : L2.Tr.Env} {xs : List D} (h : φ ρ = some (.seq false xs)) : orE (mapS (revO φ)) (revT φ) ρ = some (.seq false xs.reverse) := by
  have e : revO φ ρ = none := by unfold revO; rw [h]; rfl
  unfold orE
  show ((revO φ ρ).map (D.seq true)).or (revT φ ρ) = _
  rw [e]
  unfold revT
  rw [h]; rfl
theorem sl_fromT {φ : L2.Tr.Env → Option D} {ρ : L2.Tr.Env} {xs : List D} {k : Nat} {lo : L2.Tr.Env → Option (Option Int)} (h : φ ρ = some (.seq false xs)) (hk : lo ρ = some (some (k : Int))) :
    orE (mapS (slF slO φ lo (fun _ => some none))) (slF slT φ lo (fun _ => some none)) ρ = some (.seq false (xs.drop k)) := by
  have e1 : slF slO φ lo (fun _ => some none) ρ = none := by
    unfold slF
    rw [h, Option.bind_some, hk, Option.bind_some, Option.bind_some]
    rfl
  have e2 : slF slT φ lo (fun _ => some none) ρ = some (.seq false (xs.drop k)) := by
    unfold slF
    rw [h, Option.bind_some, hk, Option.bind_some, Option.bind_some]
    show some (D.seq false (L2.Tr.cutD xs (some (k : Int)) none)) = _
    rw [cut_from]
  unfold orE
  show ((slF slO φ lo (fun _ => some none) ρ).map (D.seq true)).or _ = _
  rw [e1]
  exact e2
section
variable {C : Addr} {ps : List (Str × List Str)} {xs named : List Str} {s0 : Str} {st : List Str}
/-- told with one pair exchanged -/
theorem splice {ρ : L2.Tr.Env} {i : Nat} {q : L2.Tr.Env → Option D} {d : D} (hi : i ≤ ps.length) (hp : ps.length ≤ 3) (h2 : atP 2 ρ = some (.seq true (ps.map pD))) (h7 : atP 7 ρ = some (.leaf (.int (i : Nat)))) (hq : q ρ = some d) :
    bin2 addD (bin2 addD (orE (mapS (slF slO (atP 2) (fun _ => some none) (partF (atP 7)))) (slF slT (atP 2) (fun _ => some none) (partF (atP 7)))) (mapS (lstDisp (consD q nilD)))) (orE (mapS (slF slO (atP 2) (partF (bin2 addD (atP 7) (kD (.leaf (.int 1))))) (fun _ => some none))) (slF slT (atP 2) (partF (bin2 addD (atP 7) (kD (.leaf (.int 1))))) (fun _ => some none))) ρ
      = some (.seq true ((ps.take i).map pD ++ [d] ++ (ps.drop (i + 1)).map pD)) := by
  have hLim : Lim = 5000 := rfl
  have p7 : partF (atP 7) ρ = some (some (i : Int)) := by
    show (((atP 7) ρ).bind asI).map some = _
    rw [h7]; rfl
  have p8 : partF (bin2 addD (atP 7) (kD (.leaf (.int 1)))) ρ = some (some ((i + 1 : Nat) : Int)) := by
    show ((bin2 addD (atP 7) (kD (.leaf (.int 1))) ρ).bind asI).map some = _
    rw [bin_2 h7 (e := .leaf (.int 1)) rfl]; rfl
  rw [bin_2 (d := .seq true ((ps.map pD).take i ++ [d])) ?_ (sl_from (xs := ps.map pD) (k := i + 1) h2 p8), add_lst, List.map_take, List.map_drop]
  · rw [List.length_append, List.length_take, List.length_drop, List.length_singleton, List.length_map]; omega
  · rw [bin_2 (sl_to (xs := ps.map pD) (k := i) h2 p7) (maps_ (lst_ (cons_ hq rfl) (by show (1 : Nat) ≤ Lim; decide))), add_lst]
    rw [List.length_take, List.length_singleton, List.length_map]; omega
theorem neq_ {o : D} {b : Bool} {φ ψ : L2.Tr.Env → Option D} {ρ : L2.Tr.Env} {neg : Bool} {ps' : List (Str × List Str)} {xs' : List Str} (h : Cols ps xs) (h' : Cols ps' xs') (e1 : φ ρ = some (colV C ps xs)) (e2 : ψ ρ = some (colV C ps' xs')) (hb : decide (csOf ps xs = csOf ps' xs') = b) :
    bin2 (eqOD neg C (fEq C)) φ ψ ρ = some (bD (xor neg b)) := by
  rw [bin_2 e1 e2, eqO_ok neg h h', hb]
theorem mk_ {φ ψ : L2.Tr.Env → Option D} {ρ : L2.Tr.Env} {b bf : Bool} {ps' : List (Str × List Str)} {xs' : List Str} (h : Cols ps' xs') (e1 : φ ρ = some (.seq b (ps'.map pD))) (e2 : ψ ρ = some (.seq bf (xs'.map sD))) : app1 (mkD C (fInit C)) (consD φ (consD ψ nilD)) ρ = some (colV C ps' xs') := by
  rw [app_2 e1 e2, mk_ok h]
def Al (col w : D) (ps : List (Str × List Str)) (xs : List Str) (s0 : Str) (ρ : L2.Tr.Env) : Prop := ∃ s3 s4 s7 s8 s9 s10, ρ = [.pu col, .pu w, .pu (.seq true (ps.map pD)), s3, s4, .pu (.seq true (xs.map sD)), .pu (sD s0), s7, s8, s9, s10]
theorem told_list {ρ : L2.Tr.Env} {w0 w3 w4 : Sl} (h : Cols ps xs) (e : ρ = [w0, .pu (wD ps xs named), .un, .un, .un, .un, .un, .un, .un, .un, .un]) :
    lcF [3, 4] (zipF (bin2 dgD (atP 1) (kD (.leaf (.str "names")))) (bin2 dgD (atP 1) (kD (.leaf (.str "values"))))) (tupT 2 (consT (setF 3) (consT (setF 4) nilT))) (asBF (bin2 (isN true) (atP 4) (kD (.leaf .non)))) (tupDisp (consD (atP 3) (consD (atP 4) nilD))) ρ = some (ps.map pD) := by
  subst e
  have l3 := h.l3
  have z : zipF (bin2 dgD (atP 1) (kD (.leaf (.str "names")))) (bin2 dgD (atP 1) (kD (.leaf (.str "values")))) [w0, .pu (wD ps xs named), .un, .un, .un, .un, .un, .un, .un, .un, .un] = some (pairsOf ps xs) := by
    unfold zipF
    rw [bin_2 (d := .seq true ((keysOf ps xs).map sD)) (e := .seq true (valsOf ps xs)) rfl rfl]
    show (if true = true then some (zipL ((keysOf ps xs).map sD) (valsOf ps xs)) else none) = _
    rw [if_pos rfl, zip_w]
  rw [lc_ z (by unfold pairsOf csOf; rw [List.length_map, List.length_append, List.length_map, List.length_map]; have : Lim = 5000 := rfl; omega)]
  rw [comp_flt (p := fun d => match d with
    | .seq false [_, .leaf .non] => false
    | _ => true) (g := fun d => d) fun d hd => ?_]
  · rw [List.map_id']
    unfold pairsOf csOf
    rw [List.map_append, List.filter_append]
    have e1 : ((List.map itemD (ps.map fun p => (p.1, some p.2))).filter fun d => match d with
      | .seq false [_, .leaf .non] => false
      | _ => true) = ps.map pD := by
      rw [List.filter_eq_self.mpr]
      · rw [List.map_map]; rfl
      · intro d hd
        obtain ⟨c, hc, rfl⟩ := List.mem_map.mp hd
        obtain ⟨p, hp, rfl⟩ := List.mem_map.mp hc
        rfl
    have e2 : ((List.map itemD (xs.map fun x => (x, none))).filter fun d => match d with
      | .seq false [_, .leaf .non] => false
      | _ => true) = [] := by
      rw [List.filter_eq_nil_iff]
      intro d hd
      obtain ⟨c, hc, rfl⟩ := List.mem_map.mp hd
      obtain ⟨p, hp, rfl⟩ := List.mem_map.mp hc
      exact Bool.false_ne_true
    rw [e1, e2, List.append_nil]
  · obtain ⟨c, hc, rfl⟩ := List.mem_map.mp hd
    obtain ⟨n, o⟩ := c
    refine ⟨[w0, .pu (wD ps xs named), .un, .pu (sD n), .pu (vD o), .un, .un, .un, .un, .un, .un], rfl, ?_, fun _ => rfl⟩
    cases o <;> rfl
def aB : Addr → L2.Tr.Env → Option Out := fun C => seqF (asgF (bin2 addD (bin2 addD (orE (mapS (slF slO (atP 2) (fun _ => some none) (partF (atP 7)))) (slF slT (atP 2) (fun _ => some none) (partF (atP 7)))) (mapS (lstDisp (consD (tupDisp (consD (atP 3) (consD (bin2 addD (tupDisp (consD (atP 6) nilD)) (orE (mapS (slF slO (atP 4) (partF (kD (.leaf (.int 1)))) (fun _ => some none))) (slF slT (atP 4) (partF (kD (.leaf (.int 1)))) (fun _ => some none)))) nilD))) nilD)))) (orE (mapS (slF slO (atP 2) (partF (bin2 addD (atP 7) (kD (.leaf (.int 1))))) (fun _ => some none))) (slF slT (atP 2) (partF (bin2 addD (atP 7) (kD (.leaf (.int 1))))) (fun _ => some none)))) (setF 8)) (seqF (asgF (bin2 addD (bin2 addD (orE (mapS (slF slO (atP 2) (fun _ => some none) (partF (atP 7)))) (slF slT (atP 2) (fun _ => some none) (partF (atP 7)))) (mapS (lstDisp (consD (tupDisp (consD (atP 6) (consD (atP 4) nilD))) nilD)))) (orE (mapS (slF slO (atP 2) (partF (bin2 addD (atP 7) (kD (.leaf (.int 1))))) (fun _ => some none))) (slF slT (atP 2) (partF (bin2 addD (atP 7) (kD (.leaf (.int 1))))) (fun _ => some none)))) (setF 9)) (seqF (ifS (orB (asBF (bin2 (eqOD false C (fEq C)) (atP 0) (app1 (mkD C (fInit C)) (consD (atP 8) (consD (atP 5) nilD))))) (notB (asBF (bin2 (eqOD true C (fEq C)) (atP 0) (app1 (mkD C (fInit C)) (consD (atP 9) (consD (atP 5) nilD))))))) (retF (kD (.leaf (.bl false)))) skipF) (seqF (asgF (bin2 addD (bin2 addD (orE (mapS (slF slO (atP 2) (fun _ => some none) (partF (atP 7)))) (slF slT (atP 2) (fun _ => some none) (partF (atP 7)))) (mapS (lstDisp (consD (tupDisp (consD (atP 3) (consD (orE (mapS (revO (atP 4))) (revT (atP 4))) nilD))) nilD)))) (orE (mapS (slF slO (atP 2) (partF (bin2 addD (atP 7) (kD (.leaf (.int 1))))) (fun _ => some none))) (slF slT (atP 2) (partF (bin2 addD (atP 7) (kD (.leaf (.int 1))))) (fun _ => some none)))) (setF 10)) (ifS (asBF (bin2 (scD true) (bin2 (eqOD false C (fEq C)) (atP 0) (app1 (mkD C (fInit C)) (consD (atP 10) (consD (atP 5) nilD)))) (bin2 (scD false) (app1 lenA (consD (atP 4) nilD)) (kD (.leaf (.int 1)))))) (retF (kD (.leaf (.bl false)))) skipF))))
theorem swap_map {a b : List (Str × List Str)} {q : Str × List Str} : a.map pD ++ [pD q] ++ b.map pD = (a ++ q :: b).map pD := by
  rw [List.map_append, List.map_cons, List.append_assoc]; rfl
theorem aB_ok {w : D} {s8 s9 s10 : Sl} (h : Cols ps xs) {i : Nat} {p : Str × List Str} (hi : ps[i]? = some p) (hw : isW s0 = true) (hnum : s0 ≠ "number") (hk : s0 ∉ keysOf ps xs) (hv : s0 ∉ p.2) :
    ∃ t8 t9 t10, aB C [.pu (colV C ps xs), .pu w, .pu (.seq true (ps.map pD)), .pu (sD p.1), .pu (.seq false (p.2.map sD)), .pu (.seq true (xs.map sD)), .pu (sD s0), .pu (.leaf (.int (i : Nat))), s8, s9, s10]
      = some (.nx [.pu (colV C ps xs), .pu w, .pu (.seq true (ps.map pD)), .pu (sD p.1), .pu (.seq false (p.2.map sD)), .pu (.seq true (xs.map sD)), .pu (sD s0), .pu (.leaf (.int (i : Nat))), t8, t9, t10]) := by
  obtain ⟨n, vs⟩ := p
  have l3 := h.l3
  have hil := (List.getElem?_eq_some_iff.mp hi).1
  have hp := h.t _ (List.mem_of_getElem? hi)
  have v1 : 1 ≤ vs.length := hp.v.lo
  have v3 : vs.length ≤ 3 := hp.v.hi
  have hLim : Lim = 5000 := rfl
  have dec : ps = ps.take i ++ (n, vs) :: ps.drop (i + 1) := by
    have e := List.getElem_cons_drop hil
    have e2 : ps[i] = (n, vs) := (List.getElem?_eq_some_iff.mp hi).2
    rw [e2] at e
    rw [e, List.take_append_drop]
  have hh : Cols (ps.take i ++ (n, vs) :: ps.drop (i + 1)) xs := dec ▸ h
  have hk' : s0 ∉ keysOf (ps.take i ++ (n, vs) :: ps.drop (i + 1)) xs := dec ▸ hk
  -- the three
  have q1 : Told (n, s0 :: vs.drop 1) := ⟨hp.n, by
    refine ⟨?_, ?_, ?_, ?_⟩
    · show 1 ≤ (s0 :: vs.drop 1).length
      rw [List.length_cons]; omega
    · show (s0 :: vs.drop 1).length ≤ 3
      rw [List.length_cons, List.length_drop]; omega
    · intro x hx
      rcases List.mem_cons.mp hx with z | z
      · rw [z]; exact hw
      · exact hp.v.ws x (List.mem_of_mem_drop z)
    · show (s0 :: vs.drop 1).Nodup
      rw [List.nodup_cons]
      exact ⟨fun z => hv (List.mem_of_mem_drop z), hp.v.nd.sublist (List.drop_sublist 1 vs)⟩⟩
  have q2 : Told (s0, vs) := ⟨⟨hw, hnum⟩, hp.v⟩
  have q3 : Told (n, vs.reverse) := ⟨hp.n, hp.v.rev⟩
  have c1 := hh.swap (q := (n, s0 :: vs.drop 1)) q1 (.inl rfl)
  have c2 := hh.swap (q := (s0, vs)) q2 (.inr hk')
  have c3 := hh.swap (q := (n, vs.reverse)) q3 (.inl rfl)
  have n1 : decide (csOf ps xs = csOf (ps.take i ++ (n, s0 :: vs.drop 1) :: ps.drop (i + 1)) xs) = false := by
    refine decide_eq_false fun z => ?_
    have z2 : csOf (ps.take i ++ (n, vs) :: ps.drop (i + 1)) xs = csOf (ps.take i ++ (n, s0 :: vs.drop 1) :: ps.drop (i + 1)) xs := by rw [← dec]; exact z
    have := congrArg Prod.snd (swap_eq.mp z2)
    exact hv (by show s0 ∈ vs; rw [show vs = s0 :: vs.drop 1 from this]; exact List.mem_cons_self)
  have n2 : decide (csOf ps xs = csOf (ps.take i ++ (s0, vs) :: ps.drop (i + 1)) xs) = false := by
    refine decide_eq_false fun z => ?_
    have z2 : csOf (ps.take i ++ (n, vs) :: ps.drop (i + 1)) xs = csOf (ps.take i ++ (s0, vs) :: ps.drop (i + 1)) xs := by rw [← dec]; exact z
    have e : n = s0 := congrArg Prod.fst (swap_eq.mp z2)
    refine hk ?_
    unfold keysOf
    exact List.mem_append_left _ (List.mem_map.mpr ⟨(n, vs), List.mem_of_getElem? hi, e⟩)
  have n3 : decide (csOf ps xs = csOf (ps.take i ++ (n, vs.reverse) :: ps.drop (i + 1)) xs) = decide (vs.length = 1) := by
    rw [decide_eq_decide]
    refine ⟨fun z => ?_, fun z => ?_⟩
    · have z2 : csOf (ps.take i ++ (n, vs) :: ps.drop (i + 1)) xs = csOf (ps.take i ++ (n, vs.reverse) :: ps.drop (i + 1)) xs := by rw [← dec]; exact z
      exact (rev_eq hp.v).mp (congrArg Prod.snd (swap_eq.mp z2)).symm
    · rw [(rev_eq hp.v).mpr z, ← dec]
  refine ⟨.pu (.seq true ((ps.take i ++ (n, s0 :: vs.drop 1) :: ps.drop (i + 1)).map pD)), .pu (.seq true ((ps.take i ++ (s0, vs) :: ps.drop (i + 1)).map pD)), .pu (.seq true ((ps.take i ++ (n, vs.reverse) :: ps.drop (i + 1)).map pD)), ?_⟩
  unfold aB
  refine (seq_nx (ρ2 := [.pu (colV C ps xs), .pu w, .pu (.seq true (ps.map pD)), .pu (sD n), .pu (.seq false (vs.map sD)), .pu (.seq true (xs.map sD)), .pu (sD s0), .pu (.leaf (.int (i : Nat))), .pu (.seq true ((ps.take i ++ (n, s0 :: vs.drop 1) :: ps.drop (i + 1)).map pD)), s9, s10]) ?_).trans ?_
  · refine (asg_ (d := .seq true ((ps.take i ++ (n, s0 :: vs.drop 1) :: ps.drop (i + 1)).map pD)) ?_).trans rfl
    rw [splice (ps := ps) (i := i) (d := pD (n, s0 :: vs.drop 1)) (by omega) (by omega) rfl rfl ?_, swap_map]
    refine tup_ (cons_ rfl (cons_ ?_ rfl)) (by show (2 : Nat) ≤ Lim; decide)
    rw [bin_2 (d := .seq false [sD s0]) rfl (sl_fromT (xs := vs.map sD) (k := 1) rfl rfl), add_tup]
    · rw [← List.map_drop]; rfl
    · rw [List.length_singleton, List.length_drop, List.length_map]; omega
  refine (seq_nx (ρ2 := [.pu (colV C ps xs), .pu w, .pu (.seq true (ps.map pD)), .pu (sD n), .pu (.seq false (vs.map sD)), .pu (.seq true (xs.map sD)), .pu (sD s0), .pu (.leaf (.int (i : Nat))), .pu (.seq true ((ps.take i ++ (n, s0 :: vs.drop 1) :: ps.drop (i + 1)).map pD)), .pu (.seq true ((ps.take i ++ (s0, vs) :: ps.drop (i + 1)).map pD)), s10]) ?_).trans ?_
  · refine (asg_ (d := .seq true ((ps.take i ++ (s0, vs) :: ps.drop (i + 1)).map pD)) ?_).trans rfl
    rw [splice (ps := ps) (i := i) (d := pD (s0, vs)) (by omega) (by omega) rfl rfl ?_, swap_map]
    exact tup_ (cons_ rfl (cons_ rfl rfl)) (by show (2 : Nat) ≤ Lim; decide)
  rw [seq_if_f]
  · refine (seq_nx (ρ2 := [.pu (colV C ps xs), .pu w, .pu (.seq true (ps.map pD)), .pu (sD n), .pu (.seq false (vs.map sD)), .pu (.seq true (xs.map sD)), .pu (sD s0), .pu (.leaf (.int (i : Nat))), .pu (.seq true ((ps.take i ++ (n, s0 :: vs.drop 1) :: ps.drop (i + 1)).map pD)), .pu (.seq true ((ps.take i ++ (s0, vs) :: ps.drop (i + 1)).map pD)), .pu (.seq true ((ps.take i ++ (n, vs.reverse) :: ps.drop (i + 1)).map pD))]) ?_).trans ?_
    · refine (asg_ (d := .seq true ((ps.take i ++ (n, vs.reverse) :: ps.drop (i + 1)).map pD)) ?_).trans rfl
      rw [splice (ps := ps) (i := i) (d := pD (n, vs.reverse)) (by omega) (by omega) rfl rfl ?_, swap_map]
      refine tup_ (cons_ rfl (cons_ ((rev_t (xs := vs.map sD) rfl).trans ?_) rfl)) (by show (2 : Nat) ≤ Lim; decide)
      rw [← List.map_reverse]
    · refine skip_if (asB_ (b := false) ?_)
      rw [bin_2 (neq_ (o := w) h c3 rfl (mk_ c3 rfl rfl) n3) (e := bD (decide (vs.length = 1))) ?_]
      · show (if scal (.bl (xor false (decide (vs.length = 1)))) (.bl (decide (vs.length = 1))) = true then some (bD (xor true (decide (V.bl (xor false (decide (vs.length = 1))) = V.bl (decide (vs.length = 1)))))) else none) = _
        cases decide (vs.length = 1) <;> rfl
      · rw [bin_2 (d := .leaf (.int vs.length)) (e := .leaf (.int 1)) ?_ rfl]
        · show some (bD (xor false (decide (V.int vs.length = V.int 1)))) = _
          rw [Bool.false_xor]
          congr 2
          rw [decide_eq_decide]
          exact ⟨fun z => by have := V.int.inj z; omega, fun z => by rw [z]; rfl⟩
        · rw [app_1 (d := .seq false (vs.map sD)) rfl]
          show some (D.leaf (.int (vs.map sD).length)) = _
          rw [List.length_map]
  · rw [orB_f]
    · refine notB_ (b := true) (asB_ ?_)
      rw [neq_ (o := w) h c2 rfl (mk_ c2 rfl rfl) n2]; rfl
    · refine asB_ (b := false) ?_
      rw [neq_ (o := w) h c1 rfl (mk_ c1 rfl rfl) n1]; rfl
end
end L2.K1

namespace L2.K1
open PySem PySem.Spec PyProof.Rows L2.Tr
section
variable {C : Addr} {ps : List (Str × List Str)} {xs named : List Str} {s0 : Str} {st : List Str}
theorem and2 {χ ξ : L2.Tr.Env → Option Bool} {ρ : L2.Tr.Env} {a : Bool} (h : χ ρ = some a) (h2 : a = true → ξ ρ = some false) : andB χ ξ ρ = some false := by
  unfold andB
  rw [h, Option.bind_some]
  cases a with
  | true => rw [if_pos rfl]; exact h2 rfl
  | false => rw [if_neg (by decide)]
theorem one_free (hw : isW s0 = true) (hn : s0 ≠ "number") : Cols [] [s0] :=
  ⟨fun p hp => (List.not_mem_nil hp).elim, fun x hx => by rw [List.mem_singleton.mp hx]; exact ⟨hw, hn⟩, by simp, by simp, by simp, by simp⟩
theorem one_told (hw : isW s0 = true) (hn : s0 ≠ "number") : Cols [(s0, [s0])] [] :=
  ⟨fun p hp => by rw [List.mem_singleton.mp hp]; exact ⟨⟨hw, hn⟩, ⟨by simp, by simp, fun x hx => by rw [List.mem_singleton.mp hx]; exact hw, by simp⟩⟩, fun x hx => (List.not_mem_nil hx).elim, by simp, by simp, by simp, by simp⟩
theorem alone_ok (h : Cols ps xs) (hn2 : named.length ≤ 50) (hs : spareL ps xs named = s0 :: st) (hw : isW s0 = true) (hnum : s0 ≠ "number") (hk : s0 ∉ keysOf ps xs) (hv : ∀ p ∈ ps, s0 ∉ p.2) :
    fAlone C (fInit C) (fEq C) [colV C ps xs, wD ps xs named] = some (bD true) := by
  have l1 := h.l1
  have l3 := h.l3
  have hLim : Lim = 5000 := rfl
  show runF nAlone.length (FAlone C (fInit C) (fEq C)) [colV C ps xs, wD ps xs named] = _
  refine run_rt ?_
  show seqF _ _ [.pu (colV C ps xs), .pu (wD ps xs named), .un, .un, .un, .un, .un, .un, .un, .un, .un] = _
  refine (seq_nx (ρ2 := [.pu (colV C ps xs), .pu (wD ps xs named), .pu (.seq true (ps.map pD)), .un, .un, .un, .un, .un, .un, .un, .un]) ?_).trans ?_
  · exact (asg_ (maps_ (told_list (w3 := .un) (w4 := .un) h rfl))).trans rfl
  refine (seq_nx (ρ2 := [.pu (colV C ps xs), .pu (wD ps xs named), .pu (.seq true (ps.map pD)), .un, .un, .pu (.seq true (xs.map sD)), .pu (sD s0), .un, .un, .un, .un]) ?_).trans ?_
  · have a : app1 fFree (consD (atP 1) nilD) [.pu (colV C ps xs), .pu (wD ps xs named), .pu (.seq true (ps.map pD)), .un, .un, .un, .un, .un, .un, .un, .un] = some (.seq true (xs.map sD)) := by
      rw [app_1 (d := wD ps xs named) rfl, free_ok h]
    have b : bin2 ixD (app1 fSpare (consD (atP 1) nilD)) (kD (.leaf (.int 0))) [.pu (colV C ps xs), .pu (wD ps xs named), .pu (.seq true (ps.map pD)), .un, .un, .un, .un, .un, .un, .un, .un] = some (sD s0) := by
      rw [bin_2 (d := .seq true ((s0 :: st).map sD)) (e := .leaf (.int 0)) (by rw [app_1 (d := wD ps xs named) rfl, spare_ok h hn2, hs]) rfl]
      show atI ((s0 :: st).map sD) 0 = _
      unfold L2.atI L2.ixN
      simp
    show parPP 5 6 _ _ _ = _
    unfold parPP
    rw [a, Option.bind_some, b]
    rfl
  have self : decide (csOf ps xs = csOf ps xs) = true := decide_eq_true rfl
  have tu : ∀ {i : Nat} {ds : List D} {ρ : L2.Tr.Env}, atP i ρ = some (.seq true ds) → app1 tupD (consD (atP i) nilD) ρ = some (.seq false ds) := fun e => by rw [app_1 e]; rfl
  rw [seq_if_f]
  · refine Exists.elim (loop_inv (θ := tupT 2 (consT (setF 7) (consT (tupT 2 (consT (setF 3) (consT (setF 4) nilT))) nilT))) (Φ := aB C) (ds := enumL 0 (ps.map pD)) (Al (colV C ps xs) (wD ps xs named) ps xs s0) (ρ := [.pu (colV C ps xs), .pu (wD ps xs named), .pu (.seq true (ps.map pD)), .un, .un, .pu (.seq true (xs.map sD)), .pu (sD s0), .un, .un, .un, .un]) ?_ ⟨_, _, _, _, _, _, rfl⟩) fun ρ' hρ => ?_
    · rintro d hd ρ ⟨s3, s4, s7, s8, s9, s10, rfl⟩
      obtain ⟨i, x, hx, rfl⟩ := enum_mem hd
      rw [List.getElem?_map] at hx
      obtain ⟨p, hp, rfl⟩ := Option.map_eq_some_iff.mp hx
      obtain ⟨t8, t9, t10, e⟩ := aB_ok (C := C) (w := wD ps xs named) (s8 := s8) (s9 := s9) (s10 := s10) h hp hw hnum hk (hv p (List.mem_of_getElem? hp))
      exact ⟨_, _, rfl, e, ⟨_, _, _, _, _, _, rfl⟩⟩
    · obtain ⟨e, s3, s4, s7, s8, s9, s10, rfl⟩ := hρ
      refine (seq_nx (by exact e)).trans ?_
      have lt : app1 lenA (consD (atP 2) nilD) [.pu (colV C ps xs), .pu (wD ps xs named), .pu (.seq true (ps.map pD)), s3, s4, .pu (.seq true (xs.map sD)), .pu (sD s0), s7, s8, s9, s10] = some (.leaf (.int ps.length)) := by
        rw [app_1 (d := .seq true (ps.map pD)) rfl]
        show some (D.leaf (.int (ps.map pD).length)) = _
        rw [List.length_map]
      have lf : app1 lenA (consD (atP 5) nilD) [.pu (colV C ps xs), .pu (wD ps xs named), .pu (.seq true (ps.map pD)), s3, s4, .pu (.seq true (xs.map sD)), .pu (sD s0), s7, s8, s9, s10] = some (.leaf (.int xs.length)) := by
        rw [app_1 (d := .seq true (xs.map sD)) rfl]
        show some (D.leaf (.int (xs.map sD).length)) = _
        rw [List.length_map]
      rw [seq_if_f, seq_if_f]
      · refine ret_f ?_
        rw [and_t]
        · rw [bin_2 (d := colV C ps xs) (e := .leaf (.int 5)) rfl rfl]
          show (if C = C ∧ _ then ((fEq C [colV C ps xs, .leaf (.int 5)]).bind asB).map (fun b => bD (xor true b)) else none) = _
          rw [if_pos ⟨rfl, rfl⟩, eq_int]; rfl
        · unfold notF
          have e5 : bin2 (eqOD false C (fEq C)) (atP 0) (bin2 dgD (atP 1) (kD (.leaf (.str "names")))) [.pu (colV C ps xs), .pu (wD ps xs named), .pu (.seq true (ps.map pD)), s3, s4, .pu (.seq true (xs.map sD)), .pu (sD s0), s7, s8, s9, s10] = some (bD false) := by
            rw [bin_2 (d := colV C ps xs) (e := .seq true ((keysOf ps xs).map sD)) rfl rfl]
            show (if C = C ∧ _ then ((fEq C [colV C ps xs, .seq true ((keysOf ps xs).map sD)]).bind asB).map (fun b => bD (xor false b)) else none) = _
            rw [if_pos ⟨rfl, rfl⟩, eq_seq]; rfl
          rw [e5]; rfl
      · rw [orB_f]
        · refine asB_ (b := false) ?_
          have m2 : app1 (mkD C (fInit C)) (consD (mapS (lstDisp (consD (tupDisp (consD (atP 6) (consD (mapS (lstDisp (consD (atP 6) nilD))) nilD))) nilD))) (consD (mapS (lstDisp nilD)) nilD)) [.pu (colV C ps xs), .pu (wD ps xs named), .pu (.seq true (ps.map pD)), s3, s4, .pu (.seq true (xs.map sD)), .pu (sD s0), s7, s8, s9, s10] = some (colV C [(s0, [s0])] []) := by
            rw [app_2 (d := .seq true [.seq false [sD s0, .seq true [sD s0]]]) (e := .seq true []) rfl rfl]
            exact init_ok (bt := true) (bf := true) (ds := [.seq false [sD s0, .seq true [sD s0]]]) (xs := []) (one_told hw hnum) (.cons ⟨false, true, rfl⟩ .nil)
          rw [neq_ (o := .leaf .non) (one_free hw hnum) (one_told hw hnum) (mk_ (b := true) (bf := true) (one_free hw hnum) rfl rfl) m2 (b := false) (decide_eq_false fun z => by
            have z2 : ([(s0, none)] : List Col) = [(s0, some [s0])] := z
            injection z2 with z3
            have z4 := congrArg Prod.snd z3
            cases z4)]
          rfl
        · refine and2 (a := decide (1 < (xs.length : Int))) (asB_ ?_) fun hb => asB_ (b := false) ?_
          · rw [bin_2 lf (e := .leaf (.int 1)) rfl]; rfl
          · have hx : 1 < xs.length := by have := of_decide_eq_true hb; omega
            rw [neq_ (o := .leaf .non) h h.revF rfl (mk_ (b := true) (bf := true) h.revF rfl ((rev_l (xs := xs.map sD) rfl).trans (by rw [List.map_reverse]))) (b := false) (decide_eq_false fun z => ?_)]
            · rfl
            · unfold csOf at z
              have z2 := List.append_cancel_left z
              have z3 := congrArg (List.map Prod.fst) z2
              rw [List.map_map, List.map_map] at z3
              have id1 : ∀ l : List Str, l.map (Prod.fst ∘ fun x => ((x, none) : Col)) = l := fun l => List.map_id l
              rw [id1, id1] at z3
              exact rev_ne (List.nodup_append.mp h.nd).2.1 hx z3.symm
      · refine and2 (a := decide (1 < (ps.length : Int))) (asB_ ?_) fun hb => asB_ (b := false) ?_
        · rw [bin_2 lt (e := .leaf (.int 1)) rfl]; rfl
        · have hx : 1 < ps.length := by have := of_decide_eq_true hb; omega
          rw [neq_ (o := .leaf .non) h h.rev rfl (mk_ (b := true) (bf := true) h.rev ((rev_l (xs := ps.map pD) rfl).trans (by rw [List.map_reverse])) rfl) (b := false) (decide_eq_false fun z => ?_)]
          · rfl
          · have z2 := cs_inj z
            have nd : ps.Nodup := List.Pairwise.of_map (fun x => x.fst) (fun a b hab z => hab (by rw [z])) (List.nodup_append.mp h.nd).1
            exact rev_ne nd hx z2.symm
  · rw [orB_f]
    · refine asB_ (b := false) ?_
      rw [neq_ (o := .leaf .non) h h rfl (mk_ (b := true) (bf := true) h rfl rfl) self]; rfl
    · refine notB_ (b := true) (asB_ ?_)
      rw [neq_ (o := .leaf .non) h h rfl (mk_ (b := false) (bf := false) h (tu rfl) (tu rfl)) self]; rfl
end
end L2.K1

namespace L2.K1
open PySem PySem.Spec PyProof.Rows L2.Tr
/-! there are spare words, and they stand nowhere -/
theorem sub_len {α : Type} [DecidableEq α] : ∀ {l m : List α}, l.Nodup → (∀ x ∈ l, x ∈ m) → l.length ≤ m.length
  | [], m, _, _ => Nat.zero_le _
  | a :: l, m, hn, h => by
    obtain ⟨h1, h2⟩ := List.nodup_cons.mp hn
    have ha := h a List.mem_cons_self
    have ih := sub_len (l := l) (m := m.erase a) h2 fun x hx => (List.mem_erase_of_ne fun z => h1 (by rw [← z]; exact hx)).mpr (h x (List.mem_cons_of_mem _ hx))
    have := List.length_erase_of_mem ha
    have := List.length_pos_of_mem ha
    rw [List.length_cons]
    omega
theorem cand_w : ∀ x ∈ candL, isW x = true ∧ x ≠ "number" := by decide +kernel
theorem cand_nd : candL.Nodup := by decide +kernel
theorem cand_len : candL.length = 22 := by decide +kernel
theorem flat_len : ∀ {ps : List (Str × List Str)}, (∀ p ∈ ps, p.2.length ≤ 3) → (ps.flatMap (·.2)).length ≤ 3 * ps.length
  | [], _ => Nat.zero_le _
  | p :: ps, h => by
    have := h p List.mem_cons_self
    have := flat_len fun q hq => h q (List.mem_cons_of_mem _ hq)
    rw [List.flatMap_cons, List.length_append, List.length_cons]
    omega
theorem spare_good {ps : List (Str × List Str)} {xs named : List Str} (h : Cols ps xs) (hn : named.length ≤ 2) :
    ∃ s0 st, spareL ps xs named = s0 :: st ∧ s0 ≠ "number" ∧ (∀ p ∈ ps, s0 ∉ p.2) ∧ ∀ x ∈ s0 :: st, isW x = true ∧ x ∉ keysOf ps xs ∧ ∀ (i : Nat) (ys : List Str), (osOf ps xs)[i]? = some (some ys) → x ∉ ys := by
  have l3 := h.l3
  have fl := flat_len fun p hp => (h.t p hp).v.hi
  have mem : ∀ x ∈ spareL ps xs named, x ∈ candL ∧ x ∉ knownL ps xs named := fun x hx => by
    unfold spareL at hx
    obtain ⟨h1, h2⟩ := List.mem_filter.mp hx
    exact ⟨h1, fun z => by rw [decide_eq_true z] at h2; cases h2⟩
  have pos : ∃ s0 st, spareL ps xs named = s0 :: st := by
    cases e : spareL ps xs named with
    | cons s0 st => exact ⟨s0, st, rfl⟩
    | nil =>
      exfalso
      have all : ∀ x ∈ candL, x ∈ knownL ps xs named := fun x hx => by
        by_cases z : x ∈ knownL ps xs named
        · exact z
        · have : x ∈ spareL ps xs named := by
            unfold spareL
            exact List.mem_filter.mpr ⟨hx, by rw [decide_eq_false z]; rfl⟩
          rw [e] at this; cases this
      have := sub_len cand_nd all
      rw [cand_len] at this
      unfold knownL at this
      rw [List.length_append, List.length_append, keys_len] at this
      omega
  obtain ⟨s0, st, e⟩ := pos
  have m0 := mem s0 (by rw [e]; exact List.mem_cons_self)
  have far : ∀ x, x ∉ knownL ps xs named → (x ∉ keysOf ps xs) ∧ ∀ p ∈ ps, x ∉ p.2 := fun x hx => by
    unfold knownL at hx
    exact ⟨fun z => hx (List.mem_append_left _ (List.mem_append_left _ z)), fun p hp z => hx (List.mem_append_right _ (List.mem_flatMap.mpr ⟨p, hp, z⟩))⟩
  refine ⟨s0, st, e, (cand_w s0 m0.1).2, (far s0 m0.2).2, fun x hx => ?_⟩
  have m := mem x (by rw [e]; exact hx)
  refine ⟨(cand_w x m.1).1, (far x m.2).1, fun i ys hi => ?_⟩
  have ho := List.mem_of_getElem? hi
  rcases List.mem_append.mp ho with q | q
  · obtain ⟨p, hp, e2⟩ := List.mem_map.mp q
    cases e2
    exact (far x m.2).2 p hp
  · obtain ⟨p, hp, e2⟩ := List.mem_map.mp q
    cases e2
/-- both, in one -/
theorem law_true {C : Addr} {ps : List (Str × List Str)} {xs named : List Str} (g : List D → Option D) (h : Cols ps xs) (hn : named.length ≤ 2) (hw : ∀ x ∈ named, isW x = true) :
    fShows C (fNames C) (fTV C) (fIsRow C) (fLen C) (fIn C) (fSame (fSame g)) [colV C ps xs, wD ps xs named] = some (bD true) ∧ fAlone C (fInit C) (fEq C) [colV C ps xs, wD ps xs named] = some (bD true) := by
  obtain ⟨s0, st, e, h1, h2, h3⟩ := spare_good h hn
  have h0 := h3 s0 List.mem_cons_self
  exact ⟨shows_ok g h hn hw e h3, alone_ok h (by omega) e h0.1 h1 h0.2.1 h2⟩
/-! same, by levels -/
def sameN : Nat → List D → Option D
  | 0 => fun _ => none
  | n + 1 => fSame (sameN n)
section
variable {P : Program} {w : World} {K : PySem.W.Frag} {mg : Str → Option Value} {base : Heap}
theorem fn_same {f : Addr} {fd : FuncData} (F : Fun K "_law_same" "_law_same" sSame f fd) (B : TxB mg) (hm : mg "_law_same" = some (.ref f)) (hk : PySem.W.keepIn K (.ref f) = true) (hb : Binds K fd ["_law_found", "_law_due"] []) : ∀ n : Nat, Fn P w K mg base "_law_same" (n + 1) 2 (sameN n)
  | 0 => by
    refine ⟨f, fd, ["_law_found", "_law_due"], ⟨fun vs H Q E h => ?_, fun A outer s H args us vs Q E _ _ _ _ h => ?_⟩, hm, hk, hb⟩
    · obtain ⟨G, ds, d, _, _, e, _⟩ := h
      cases e
    · obtain ⟨G, ds, d, _, _, e, _⟩ := h
      cases e
  | n + 1 => ⟨f, fd, ["_law_found", "_law_due"], okSame (sameN n) F B (fn_same F B hm hk hb n), hm, hk, hb⟩
theorem fn_mono {x : Str} {j k n : Nat} {f : List D → Option D} (h : Fn P w K mg base x j n f) (hjk : j ≤ k) : Fn P w K mg base x k n f := by
  obtain ⟨a, fd, ps, F, h1, h2, h3⟩ := h.ex
  exact ⟨a, fd, ps, F.mono hjk, h1, h2, h3⟩
end
end L2.K1

/-! The stream, of law k01: as law k02's Na. -/
namespace L2.K1
open PySem PySem.Spec PyProof.Rows
abbrev sDraw : Stmt := top 23
abbrev sStart : Stmt := top 24
/-! ### the stream: a list at a of the script's rest (a list at b) and three numbers -/
structure StO (H : Hp) (a b : Addr) (n : Nat) : Prop where
  ex : ∃ (ns : List Int) (c1 c2 c3 : Int), H a = some (.lst [.ref b, .int c1, .int c2, .int c3]) ∧ H b = some (.lst (ns.map V.int)) ∧ 0 ≤ c1 ∧ 0 ≤ c2 ∧ c2 ≤ n ∧ 0 ≤ c3 ∧ c3 < 2147483647
/-- all that was tracked, but for the addresses of S, is as it was -/
def Kp (S : Addr → Prop) (H H' : Hp) : Prop := ∀ c o, H c = some o → ¬ S c → H' c = some o
theorem Kp.refl {S : Addr → Prop} (H : Hp) : Kp S H H := fun _ _ h _ => h
theorem Kp.trans {S : Addr → Prop} {H H1 H2 : Hp} (p : Kp S H H1) (q : Kp S H1 H2) : Kp S H H2 := fun c o h n => q c o (p c o h n) n
theorem Kp.of {S : Addr → Prop} {H H' : Hp} (e : Same H H') : Kp S H H' := fun c o h _ => e c o h
abbrev two (a b : Addr) : Addr → Prop := fun c => c = a ∨ c = b
theorem StO.kp {H H' : Hp} {a b : Addr} {n : Nat} (s : StO H a b n) (e : Same H H') : StO H' a b n := by
  obtain ⟨ns, c1, c2, c3, h1, h2, h⟩ := s.ex
  exact ⟨ns, c1, c2, c3, e _ _ h1, e _ _ h2, h⟩
theorem StO.le {H : Hp} {a b : Addr} {n m : Nat} (s : StO H a b n) (h : n ≤ m) : StO H a b m := by
  obtain ⟨ns, c1, c2, c3, h1, h2, h3, h4, h5, h6⟩ := s.ex
  exact ⟨ns, c1, c2, c3, h1, h2, h3, h4, by omega, h6⟩
/-- what is free behind was free ahead -/
theorem StO.free {H H' : Hp} {a b p : Addr} {m : Nat} (s : StO H' a b m) (k : Kp (two a b) H H') (h : H' p = none) : H p = none := by
  obtain ⟨ns, c1, c2, c3, h1, h2, _⟩ := s.ex
  cases e : H p with
  | none => rfl
  | some o =>
    by_cases ha : p = a
    · rw [ha, h1] at h; cases h
    · by_cases hb : p = b
      · rw [hb, h2] at h; cases h
      · rw [k p o e (fun z => z.elim ha hb)] at h; cases h
def spDraw : Sp := fun vs H Q _ => ∃ (a b : Addr) (m : Int) (n : Nat), vs = [.ref a, .int m] ∧ StO H a b n ∧ n ≤ 1000000 ∧ 0 < m ∧ m < 1000000 ∧
  ∀ (d : Int) (H' : Hp), 0 ≤ d → d < m → StO H' a b (n + 1) → Kp (two a b) H H' → Q (.int d) H'
/-- list(script), 0, 0, 0 -/
def spStart (K : PySem.W.Frag) : Sp := fun vs H Q _ => ∃ (p : Addr) (ns : List Int), vs = [.ref p] ∧ SqL K H p (ns.map V.int) ∧
  ∀ (a b : Addr) (H' : Hp), StO H' a b 0 → Same H H' → H a = none → H b = none → Q (.ref a) H'
structure TxA (mg : Str → Option Value) : Prop where
  z_int : mg "int" = none
  z_list : mg "list" = none
section
variable {P : Program} {w : World} {K : PySem.W.Frag} {mg : Str → Option Value} {base : Heap}
theorem scDraw : FnScope ["_law_stream", "_law_many", "_law_digit", "_law_mixed"] ["_law_stream", "_law_many"] (defScope sDraw) := ⟨rfl, rfl, rfl, by decide +kernel, rfl, by decide +kernel, by decide +kernel⟩
theorem dp_ints {H : Hp} : ∀ ns : List Int, DpAll K H (ns.map V.int) (ns.map PyData.int)
  | [] => .nil
  | n :: r => .cons (.int n) (dp_ints r)
theorem fmod_lt {i j : Int} (h : 0 < j) : 0 ≤ i.fmod j ∧ i.fmod j < j := by
  rw [Int.fmod_eq_emod_of_nonneg _ (Int.le_of_lt h)]
  exact ⟨Int.emod_nonneg _ (by omega), Int.emod_lt_of_pos _ h⟩
theorem fdiv_nn {i j : Int} (hi : 0 ≤ i) (h : 0 < j) : 0 ≤ i.fdiv j := by
  rw [Int.fdiv_eq_ediv_of_nonneg _ (Int.le_of_lt h)]
  exact Int.ediv_nonneg hi (Int.le_of_lt h)
theorem ok_draw {f : Addr} {fd : FuncData} (F : Fun K "_law_draw" "_law_draw" sDraw f fd) (T : TxA mg) : FnOk P w K mg base CX0 1 f fd ["_law_stream", "_law_many"] spDraw := by
  refine F.ok scDraw (fun vs H Q E h => ?_) (fun cdv A outer s H vs Q E hr h => ?_)
  · obtain ⟨a, b, m, n, rfl, _⟩ := h
    rfl
  · obtain ⟨a, b, m, n, rfl, hS, hn, hm, hm2, k⟩ := h
    obtain ⟨ns, c1, c2, c3, ha, hb, p1, p2, p2', p3, p3'⟩ := hS.ex
    have hab : a ≠ b := fun z => by
      rw [z, hb] at ha
      cases ns with
      | nil => cases ha
      | cons x r =>
        have := Option.some.inj ha
        injection this with this
        injection this with this _
        cases this
    refine ⟨_, (pss_cons (ps_asg (pe_op op_add (pe_ix ix_list (pv 0) pe_int (fun _ _ => rfl)) pe_int) (pg_sub (pv 0) pe_int set_list)) (C8.pss_cut (ps_if (PW.pt (pw_and (pt_cmpR op_eq (pe_ix ix_list (pv 0) pe_int (fun _ _ => rfl)) pe_int (nomark _)) (pw_and1 (pt_cmpR (op_neD hr.units) (pe_ix ix_list (pv 0) pe_int (fun _ _ => rfl)) (pe_lst pa_nil) (nomark _))))) (pss_cons (ps_asg (pe_bm PySem.F.plainAttrs_list PySem.F.slot_list_pop PySem.F.type_list_pop mt_popAt (pe_ix ix_list (pv 0) pe_int (fun _ _ => rfl)) (pa_cons pe_int pa_nil)) (pg_sub (pv 0) pe_int set_list)) (pss_one (ps_if (pt_cmpR op_lt (pe_ix ix_list (pv 0) pe_int (fun _ _ => rfl)) (pe_op op_pow pe_int pe_int) (nomark _)) (pss_cons (ps_asg (pe_op op_modN (pe_callTy call_int1 (by rfl) T.z_int (by decide +kernel) (pa_cons (pe_op op_add (pe_op op_add (pe_op op_mul (pe_ix ix_list (pv 0) pe_int (fun _ _ => rfl)) pe_int) (pe_ix ix_list (pv 0) pe_int (fun _ _ => rfl))) pe_int) pa_nil)) pe_int) (pg_sub (pv 0) pe_int set_list)) (pss_one (ps_asg pe_int (pg_sub (pv 0) pe_int set_list)))) pss_nil))) pss_nil) (pss_cons (ps_if (pt_cmpR op_gt (pe_ix ix_list (pv 0) pe_int (fun _ _ => rfl)) pe_int (nomark _)) (pss_cons (ps_set (i := 2) scDraw.nd rfl (Or.inl rfl) (pe_op op_modN (pe_callTy call_int1 (by rfl) T.z_int (by decide +kernel) (pa_cons (pe_ix ix_list (pv 0) pe_int (fun _ _ => rfl)) pa_nil)) (pv 1))) (pss_cons (ps_asg (pe_op op_fdivN (pe_ix ix_list (pv 0) pe_int (fun _ _ => rfl)) (pv 1)) (pg_sub (pv 0) pe_int set_list)) (pss_one (ps_ret (pv 2))))) pss_nil) (pss_cons (ps_set (i := 3) scDraw.nd rfl (Or.inl rfl) (pe_op op_modN (pe_op op_pow (pe_op op_add (pe_op op_add (pe_ix ix_list (pv 0) pe_int (fun _ _ => rfl)) (pe_op op_mul pe_int (pe_ix ix_list (pv 0) pe_int (fun _ _ => rfl)))) pe_int) pe_int) pe_int)) (pss_one (ps_ret (pe_op op_modN (pe_op op_modN (pe_op op_pow (pe_op op_add (pe_op op_add (pe_op op_mul (pv 3) pe_int) (pe_op op_mul (pe_op op_mul pe_int (pe_ix ix_list (pv 0) pe_int (fun _ _ => rfl))) (pe_ix ix_list (pv 0) pe_int (fun _ _ => rfl)))) pe_int) pe_int) pe_int) (pv 1)))))))), ?_⟩
    -- stream[2] = stream[2] + 1
    refine ⟨_, rfl, a, _, 2, _, rfl, rfl, SqL.of ha, rfl, _, _, rfl, rfl, _, rfl, a, _, 2, 2, rfl, rfl, ha, rfl, ?_⟩
    generalize e1 : upd H a _ = H1
    have h1a : H1 a = some (.lst [.ref b, .int c1, .int (c2 + 1), .int c3]) := by rw [← e1]; exact upd_same
    have h1b : H1 b = some (.lst (ns.map V.int)) := by rw [← e1, upd_ne (Ne.symm hab)]; exact hb
    have k1 : Kp (two a b) H H1 := fun c o h z => by rw [← e1, upd_ne (fun q => z (.inl q))]; exact h
    refine ⟨fun σ' H' => σ' = [some (.ref a), some (.int m), none, none] ∧ StO H' a b (n + 1) ∧ Kp (two a b) H H', ?_, ?_⟩
    · -- if stream[1] == 0 and stream[0] != []
      refine ⟨_, rfl, a, _, 1, _, rfl, rfl, SqL.of h1a, rfl, rfl, _, rfl, ?_⟩
      refine ite2 (fun hc => ?_) (fun hc => ?_)
      · have hc0 : c1 = 0 := by simpa using hc
        subst hc0
        refine ⟨_, rfl, a, _, 0, _, rfl, rfl, SqL.of h1a, rfl, (by show 0 ≤ sizeLine; decide), fun p hp => ?_⟩
        have k2 : ∀ {c o}, H1 c = some o → upd H1 p (.lst []) c = some o := fun {c o} z => by rw [upd_ne (ne_of_none z hp)]; exact z
        refine ⟨_, _, .lst (SqL.of (k2 h1b)) (dp_ints ns), .lst (SqL.of upd_same) .nil, PySem.W.ke_shaped_ints ns, (by decide), _, rfl, ?_⟩
        generalize e2 : upd H1 p (.lst []) = H2 at k2
        have h2a := k2 h1a
        have h2b := k2 h1b
        have k12 : Kp (two a b) H H2 := k1.trans (fun c o h _ => k2 h)
        cases ns with
        | nil =>
          refine iteF ?_
          exact ⟨rfl, ⟨[], 0, c2 + 1, c3, h2a, h2b, by omega, by omega, by omega, p3, p3'⟩, k12⟩
        | cons x r =>
          refine iteT ?_
          -- stream[1] = stream[0].pop(0)
          refine ⟨_, rfl, a, _, 0, _, rfl, rfl, SqL.of h2a, rfl, .inl ⟨rfl, _, SqL.of h2b⟩, b, _, 0, 0, _, rfl, rfl, h2b, by decide, by decide, (by rw [List.map_cons, List.length_cons]; simp [seqIndex?]; try omega), rfl, ?_⟩
          generalize e3 : upd H2 b _ = H3
          have h3a : H3 a = some (.lst [.ref b, .int 0, .int (c2 + 1), .int c3]) := by rw [← e3, upd_ne hab]; exact h2a
          have h3b : H3 b = some (.lst (r.map V.int)) := by rw [← e3]; exact upd_same
          refine ⟨_, rfl, a, _, 1, 1, rfl, rfl, h3a, rfl, ?_⟩
          generalize e4 : upd H3 a _ = H4
          have h4a : H4 a = some (.lst [.ref b, .int x, .int (c2 + 1), .int c3]) := by rw [← e4]; exact upd_same
          have h4b : H4 b = some (.lst (r.map V.int)) := by rw [← e4, upd_ne (Ne.symm hab)]; exact h3b
          have k14 : Kp (two a b) H H4 := k12.trans fun c o h z => by
            rw [← e4, upd_ne (fun q => z (.inl q)), ← e3, upd_ne (fun q => z (.inr q))]; exact h
          -- if stream[1] < 10 ** 18
          refine ⟨_, rfl, a, _, 1, _, rfl, rfl, SqL.of h4a, rfl, _, _, rfl, rfl, ⟨by decide, by decide, by decide⟩, _, _, rfl, rfl, _, rfl, ?_⟩
          refine ite2 (fun hc => ?_) (fun hc => ?_)
          · refine ⟨_, rfl, a, _, 3, _, rfl, rfl, SqL.of h4a, rfl, _, _, rfl, rfl, .inr ⟨by decide, by decide⟩, _, rfl, a, _, 1, _, rfl, rfl, SqL.of h4a, rfl, _, _, rfl, rfl, _, _, rfl, rfl,
              .inl ⟨_, rfl, _, _, rfl, rfl, (by show (2147483647 : Int) ≠ 0; decide), _, rfl, a, _, 3, 3, rfl, rfl, h4a, rfl, ?_⟩⟩
            generalize e5 : upd H4 a _ = H5
            have h5a : H5 a = some (.lst [.ref b, .int x, .int (c2 + 1), .int ((c3 * 31 + x + 7).fmod 2147483647)]) := by rw [← e5]; exact upd_same
            refine ⟨_, rfl, a, _, 1, 1, rfl, rfl, h5a, rfl, ?_⟩
            refine ⟨rfl, ⟨r, 0, c2 + 1, (c3 * 31 + x + 7).fmod 2147483647, upd_same, ?_, by omega, by omega, by omega, (fmod_lt (by decide)).1, (fmod_lt (by decide)).2⟩, k14.trans fun c o h z => ?_⟩
            · rw [upd_ne (Ne.symm hab), ← e5, upd_ne (Ne.symm hab)]; exact h4b
            · rw [upd_ne (fun q => z (.inl q)), ← e5, upd_ne (fun q => z (.inl q))]; exact h
          · have hx : ¬ x < 10 ^ 18 := by simpa using hc
            exact ⟨rfl, ⟨r, x, c2 + 1, c3, h4a, h4b, by omega, by omega, by omega, p3, p3'⟩, k14⟩
      · exact ⟨rfl, ⟨ns, c1, c2 + 1, c3, h1a, h1b, p1, by omega, by omega, p3, p3'⟩, k1⟩
    · rintro σ' H' ⟨rfl, S', kk⟩
      obtain ⟨ns', d1, d2, d3, ga, gb, q1, q2, q2', q3, q3'⟩ := S'.ex
      -- if stream[1] > 0
      refine ⟨_, rfl, a, _, 1, _, rfl, rfl, SqL.of ga, rfl, _, _, rfl, rfl, _, rfl, ?_⟩
      refine ite2 (fun hc => ?_) (fun hc => ?_)
      · have hd1 : 0 < d1 := by simpa using hc
        refine ⟨_, rfl, a, _, 1, _, rfl, rfl, SqL.of ga, rfl, .inl ⟨_, rfl, _, rfl, _, _, rfl, rfl, by omega, ?_⟩⟩
        refine ⟨_, rfl, a, _, 1, _, rfl, rfl, SqL.of ga, rfl, _, rfl, _, _, rfl, rfl, ⟨by omega, by omega⟩, _, rfl, a, _, 1, 1, rfl, rfl, ga, rfl, ?_⟩
        refine ⟨_, rfl, ?_⟩
        refine k (d1.fmod m) _ (fmod_lt hm).1 (fmod_lt hm).2 ⟨ns', d1.fdiv m, d2, d3, upd_same, ?_, fdiv_nn q1 hm, q2, q2', q3, q3'⟩ (kk.trans fun c o h z => ?_)
        · rw [upd_ne (Ne.symm hab)]; exact gb
        · rw [upd_ne (fun q => z (.inl q))]; exact h
      · -- the mixed draw
        have b2 : d2 ≤ 1000001 := by omega
        refine ⟨_, rfl, a, _, 3, _, rfl, rfl, SqL.of ga, rfl, _, rfl, a, _, 2, _, rfl, rfl, SqL.of ga, rfl, _, _, rfl, rfl, .inl ⟨by decide, by decide⟩, _, _, rfl, rfl, _, _, rfl, rfl, _, _, rfl, rfl, ⟨by decide, by decide, by omega⟩, _, _, rfl, rfl, (by show (2147483629 : Int) ≠ 0; decide), ?_⟩
        have w1 := fmod_lt (i := (d3 + 104729 * d2 + 17) ^ Int.toNat 5) (j := 2147483629) (by decide)
        generalize e1 : ((d3 + 104729 * d2 + 17) ^ Int.toNat 5).fmod 2147483629 = x1 at w1
        have m0 : 0 ≤ d2 * d2 := Int.mul_nonneg q2 q2
        have m1 : d2 * d2 ≤ 1000001 * 1000001 := Int.mul_le_mul b2 b2 q2 (by decide)
        have m2 : 40503 * d2 * d2 = 40503 * (d2 * d2) := Int.mul_assoc _ _ _
        generalize d2 * d2 = y at m0 m1 m2
        refine ⟨_, rfl, _, _, rfl, rfl, .inl ⟨by omega, by omega⟩, _, rfl, a, _, 2, _, rfl, rfl, SqL.of ga, rfl, _, _, rfl, rfl, .inl ⟨by decide, by decide⟩, _, rfl, a, _, 2, _, rfl, rfl, SqL.of ga, rfl, _, _, rfl, rfl, .inl ⟨by omega, by omega⟩, _, _, rfl, rfl, _, _, rfl, rfl,
          _, _, rfl, rfl, ⟨by decide, by decide, by rw [m2]; omega⟩, _, _, rfl, rfl, (by show (1000000007 : Int) ≠ 0; decide), _, rfl, _, _, rfl, rfl, (by omega), ?_⟩
        exact k _ _ (fmod_lt hm).1 (fmod_lt hm).2 S' kk
theorem scStart : FnScope ["_law_script"] ["_law_script"] (defScope sStart) := ⟨rfl, rfl, rfl, by decide +kernel, rfl, by decide +kernel, by decide +kernel⟩
theorem ok_start {f : Addr} {fd : FuncData} (F : Fun K "_law_start" "_law_start" sStart f fd) (T : TxA mg) : FnOk P w K mg base CX0 1 f fd ["_law_script"] (spStart K) := by
  refine F.ok scStart (fun vs H Q E h => ?_) (fun cdv A outer s H vs Q E hr h => ?_)
  · obtain ⟨p, ns, rfl, _⟩ := h
    rfl
  · obtain ⟨p, ns, rfl, hp, k⟩ := h
    refine ⟨_, (pss_one (ps_ret (pe_lst (pa_cons (pe_callTy call_list_of (by rfl) T.z_list (by decide +kernel) (pa_cons (pv 0) pa_nil)) (pa_cons pe_int (pa_cons pe_int (pa_cons pe_int pa_nil))))))), ?_⟩
    refine ⟨_, rfl, p, _, rfl, .inl hp, fun b nb => ?_⟩
    refine ⟨by show 4 ≤ sizeLine; decide, fun a na => ?_⟩
    have hab : a ≠ b := fun z => by rw [z, upd_same] at na; cases na
    have na' : H a = none := by rw [upd_ne hab] at na; exact na
    exact k a b _ ⟨ns, 0, 0, 0, upd_same, by rw [upd_ne (Ne.symm hab)]; exact upd_same, by decide, by decide, by decide, by decide, by decide⟩
      (fun c o h => by rw [upd_ne (ne_of_none h na'), upd_ne (ne_of_none h nb)]; exact h) na' nb
end
end L2.K1

namespace L2.K1
open PySem PySem.Spec PyProof.Rows
abbrev sPick : Stmt := top 25
def spPick : Sp := fun vs H Q _ => ∃ (a b l : Addr) (xs : List V) (n : Nat), vs = [.ref a, .ref l] ∧ StO H a b n ∧ n ≤ 1000000 ∧ H l = some (.lst xs) ∧ l ≠ a ∧ l ≠ b ∧ 0 < xs.length ∧ xs.length ≤ 60 ∧
  ∀ (v : V) (H' : Hp), v ∈ xs → StO H' a b (n + 1) → Kp (two a b) H H' → Q v H'
/-- one of the signs of a text -/
def spPickS : Sp := fun vs H Q _ => ∃ (a b : Addr) (z : Str) (n : Nat), vs = [.ref a, .str z] ∧ StO H a b n ∧ n ≤ 1000000 ∧ 0 < z.length ∧ z.length ≤ 60 ∧
  ∀ (c : Nat) (H' : Hp), c ∈ z.cps.toList → StO H' a b (n + 1) → Kp (two a b) H H' → Q (.str ⟨#[c]⟩) H'
section
variable {P : Program} {w : World} {K : PySem.W.Frag} {mg : Str → Option Value} {base : Heap}
theorem scPick : FnScope ["_law_stream", "_law_some"] ["_law_stream", "_law_some"] (defScope sPick) := ⟨rfl, rfl, rfl, by decide +kernel, rfl, by decide +kernel, by decide +kernel⟩
theorem ok_pick {f fdr : Addr} {fd ddr : FuncData} (F : Fun K "_law_pick" "_law_pick" sPick f fd) (hlen : mg "len" = none) (m_dr : mg "_law_draw" = some (.ref fdr)) (k_dr : PySem.W.keepIn K (.ref fdr) = true) (GD : FnOk P w K mg base CX0 1 fdr ddr ["_law_stream", "_law_many"] spDraw) (bD : Binds K ddr ["_law_stream", "_law_many"] []) :
    FnOk P w K mg base CX0 2 f fd ["_law_stream", "_law_some"] spPick := by
  refine F.ok scPick (fun vs H Q E h => ?_) (fun cdv A outer s H vs Q E hr h => ?_)
  · obtain ⟨a, b, l, xs, n, rfl, _⟩ := h
    rfl
  · obtain ⟨a, b, l, xs, n, rfl, S, hn, hl, la, lb, h0, h60, k⟩ := h
    refine ⟨_, (pss_one (ps_ret (pe_ix ix_list (pv 1) (pe_call GD (hr.mono (by decide)) rfl m_dr k_dr bD .nil pass0 (pa_cons (pv 0) (pa_cons (pe_callB call_len_seq (by rfl) hlen (by decide +kernel) (pa_cons (pv 1) pa_nil)) pa_nil))) (fun _ _ => rfl)))), ?_⟩
    refine ⟨_, rfl, _, rfl, _, rfl, l, xs, rfl, .inl (SqL.of hl), a, b, xs.length, n, rfl, S, hn, by omega, by omega, fun i H' hi0 hi S' k' => ?_⟩
    have hl' := k' _ _ hl (fun z => z.elim la lb)
    obtain ⟨j, rfl⟩ := Int.eq_ofNat_of_zero_le hi0
    have hj : j < xs.length := by
      have : ((j : Nat) : Int) < (xs.length : Int) := hi
      omega
    refine ⟨l, xs, _, xs[j], rfl, rfl, SqL.of hl', atI_nat (List.getElem?_eq_getElem hj), ?_⟩
    exact k _ _ (List.getElem_mem hj) S' k'
theorem ok_pickS {f fdr : Addr} {fd ddr : FuncData} (F : Fun K "_law_pick" "_law_pick" sPick f fd) (hlen : mg "len" = none) (m_dr : mg "_law_draw" = some (.ref fdr)) (k_dr : PySem.W.keepIn K (.ref fdr) = true) (GD : FnOk P w K mg base CX0 1 fdr ddr ["_law_stream", "_law_many"] spDraw) (bD : Binds K ddr ["_law_stream", "_law_many"] []) :
    FnOk P w K mg base CX0 2 f fd ["_law_stream", "_law_some"] spPickS := by
  refine F.ok scPick (fun vs H Q E h => ?_) (fun cdv A outer s H vs Q E hr h => ?_)
  · obtain ⟨a, b, z, n, rfl, _⟩ := h
    rfl
  · obtain ⟨a, b, z, n, rfl, S, hn, h0, h60, k⟩ := h
    have hz : z.length ≤ sizeLine := by rw [sizeLine_eq]; omega
    refine ⟨_, (pss_one (ps_ret (pe_ix ix_str (pv 1) (pe_call GD (hr.mono (by decide)) rfl m_dr k_dr bD .nil pass0 (pa_cons (pv 0) (pa_cons (pe_callB call_len_str (by rfl) hlen (by decide +kernel) (pa_cons (pv 1) pa_nil)) pa_nil))) (fun _ _ => rfl)))), ?_⟩
    refine ⟨_, rfl, _, rfl, _, rfl, z, rfl, hz, a, b, z.length, n, rfl, S, hn, by omega, by omega, fun i H' hi0 hi S' k' => ?_⟩
    obtain ⟨j, rfl⟩ := Int.eq_ofNat_of_zero_le hi0
    have hj : j < z.cps.toList.length := by
      have h1 : ((j : Nat) : Int) < (z.length : Int) := hi
      have h2 : z.length = z.cps.toList.length := by rw [Array.length_toList]; rfl
      omega
    refine ⟨z, _, z.cps.toList[j], rfl, rfl, hz, atI_nat (List.getElem?_eq_getElem hj), ?_⟩
    exact k _ _ (List.getElem_mem hj) S' k'
end
end L2.K1

namespace L2.K1
open PySem PySem.Spec PyProof.Rows
abbrev sWord : Stmt := top 27
/-- a word of one to eight letters -/
def spWord : Sp := fun vs H Q _ => ∃ (a b : Addr) (n : Nat), vs = [.ref a] ∧ StO H a b n ∧ n + 9 ≤ 1000000 ∧
  ∀ (x : Str) (H' : Hp), isW x = true → StO H' a b (n + 9) → Kp (two a b) H H' → Q (.str x) H'
theorem StO.new {H : Hp} {a b p : Addr} {n : Nat} {o : HO} (s : StO H a b n) (h : H p = none) : StO (upd H p o) a b n := s.kp fun c u e => by rw [upd_ne (ne_of_none e h)]; exact e
theorem Kp.new {S : Addr → Prop} {H : Hp} {p : Addr} {o : HO} (h : H p = none) : Kp S H (upd H p o) := fun c u e _ => by rw [upd_ne (ne_of_none e h)]; exact e
section
variable {P : Program} {w : World} {K : PySem.W.Frag} {mg : Str → Option Value} {base : Heap}
abbrev nWord : List Str := ["_law_stream", "_law_size", "_law_k"]
theorem scWord : FnScope nWord ["_law_stream"] (defScope sWord) := ⟨rfl, rfl, rfl, by decide +kernel, rfl, by decide +kernel, by decide +kernel⟩
theorem glue_list : ∀ (ys : List Str) (acc : Array Nat), (ys.foldl (fun acc p => acc ++ (Str.ofString "").cps ++ p.cps) acc).toList = acc.toList ++ ys.flatMap fun y => y.cps.toList
  | [], acc => by rw [List.flatMap_nil, List.append_nil]; rfl
  | y :: ys, acc => by
    have e : (Str.ofString "").cps = #[] := by decide +kernel
    rw [List.foldl_cons, glue_list ys, List.flatMap_cons, e, Array.append_empty, Array.toList_append, List.append_assoc]
theorem join_cps : ∀ ys : List Str, ys ≠ [] → (Txt.join "" ys).cps.toList = ys.flatMap fun y => y.cps.toList
  | [], h => absurd rfl h
  | y :: ys, _ => by
    show (ys.foldl (fun acc p => acc ++ (Str.ofString "").cps ++ p.cps) y.cps).toList = _
    rw [glue_list, List.flatMap_cons]
theorem signs_flat : ∀ {ys : List Str}, (∀ y ∈ ys, ∃ c ∈ abc.cps.toList, y = ⟨#[c]⟩) → (ys.flatMap fun y => y.cps.toList).length = ys.length ∧ (∀ c ∈ ys.flatMap (fun y => y.cps.toList), c ∈ abc.cps.toList) ∧ (ys.map (·.length)).sum = ys.length
  | [], _ => ⟨rfl, fun c hc => (List.not_mem_nil hc).elim, rfl⟩
  | y :: ys, h => by
    obtain ⟨c, hc, rfl⟩ := h y List.mem_cons_self
    obtain ⟨h1, h2, h3⟩ := signs_flat fun z hz => h z (List.mem_cons_of_mem _ hz)
    refine ⟨?_, fun z hz => ?_, ?_⟩
    · rw [List.flatMap_cons, List.length_append, h1]
      show 1 + ys.length = ys.length + 1
      omega
    · rw [List.flatMap_cons] at hz
      rcases List.mem_append.mp hz with q | q
      · have : z = c := by simpa using q
        rw [this]; exact hc
      · exact h2 z q
    · rw [List.map_cons, List.sum_cons, h3, List.length_cons]
      show 1 + ys.length = ys.length + 1
      omega
theorem join_isW {ys : List Str} (h1 : 1 ≤ ys.length) (h8 : ys.length ≤ 8) (h : ∀ y ∈ ys, ∃ c ∈ abc.cps.toList, y = ⟨#[c]⟩) : isW (Txt.join "" ys) = true ∧ (ys.map (·.length)).sum ≤ 8 := by
  have hne : ys ≠ [] := fun z => by rw [z] at h1; simp at h1
  obtain ⟨g1, g2, g3⟩ := signs_flat h
  have e := join_cps ys hne
  have hl : (Txt.join "" ys).length = ys.length := by
    have : (Txt.join "" ys).length = (Txt.join "" ys).cps.toList.length := by rw [Array.length_toList]; rfl
    rw [this, e, g1]
  refine ⟨?_, by omega⟩
  unfold isW
  rw [hl, e, decide_eq_true (by omega), decide_eq_true (by omega), List.all_eq_true.mpr fun c hc => decide_eq_true (g2 c hc)]
  rfl
theorem ok_word {f fdr fpk : Addr} {fd ddr dpk : FuncData} (F : Fun K "_law_word" "_law_word" sWord f fd) (hrange : mg "range" = none) (m_dr : mg "_law_draw" = some (.ref fdr)) (k_dr : PySem.W.keepIn K (.ref fdr) = true) (GD : FnOk P w K mg base CX0 1 fdr ddr ["_law_stream", "_law_many"] spDraw) (bD : Binds K ddr ["_law_stream", "_law_many"] [])
    (m_pk : mg "_law_pick" = some (.ref fpk)) (k_pk : PySem.W.keepIn K (.ref fpk) = true) (GP : FnOk P w K mg base CX0 2 fpk dpk ["_law_stream", "_law_some"] spPickS) (bP : Binds K dpk ["_law_stream", "_law_some"] []) :
    FnOk P w K mg base CX0 3 f fd ["_law_stream"] spWord := by
  refine F.ok scWord (fun vs H Q E h => ?_) (fun cdv A outer s H vs Q E hr h => ?_)
  · obtain ⟨a, b, n, rfl, _⟩ := h
    rfl
  · obtain ⟨a, b, n, rfl, S, hn, k⟩ := h
    refine ⟨_, (pss_cons (ps_set (i := 1) scWord.nd rfl (by first | exact Or.inl rfl | exact Or.inr rfl) (pe_ix ix_list (pe_lst (pa_cons pe_int (pa_cons pe_int (pa_cons pe_int (pa_cons pe_int (pa_cons pe_int (pa_cons pe_int pa_nil))))))) (pe_call GD (hr.mono (by decide)) rfl m_dr k_dr bD .nil pass0 (pa_cons (pv 0) (pa_cons pe_int pa_nil))) (fun _ _ => rfl)))
      (pss_one (ps_ret (pe_join pe_str (pe_lc (own := [("_law_k", 2)]) rfl scWord.nd (pi_range1 (by rfl) hrange (pa_cons (pv 1) pa_nil)) (blkOk_by (N := nWord) (sc := defScope sWord) (by decide +kernel)) (fun _ _ _ _ _ => pg_name (i := 2) scWord.nd rfl (Or.inl rfl)) (fun _ _ _ _ _ => pts_nil)
        (fun _ _ _ _ _ => pe_call GP (hr.mono (by decide)) rfl m_pk k_pk bP .nil pass0 (pa_cons (pv 0) (pa_cons pe_str pa_nil)))))))), ?_⟩
    refine ⟨by show 6 ≤ sizeLine; decide, fun p np => ⟨_, rfl, a, b, 6, n, rfl, S.new np, by omega, by decide, by decide, fun d H1 hd0 hd S1 k1 => ?_⟩⟩
    have kp : Kp (two a b) H H1 := (Kp.new np).trans k1
    have hpa : p ≠ a := fun z => by
      obtain ⟨ns, c1, c2, c3, g1, g2, _⟩ := S.ex
      rw [z, g1] at np; cases np
    have hpb : p ≠ b := fun z => by
      obtain ⟨ns, c1, c2, c3, g1, g2, _⟩ := S.ex
      rw [z, g2] at np; cases np
    have hp1 : H1 p = some (.lst [.int 1, .int 1, .int 2, .int 3, .int 4, .int 8]) := k1 _ _ upd_same (fun z => z.elim hpa hpb)
    obtain ⟨m, hm1, hm8, hat⟩ : ∃ m : Nat, 1 ≤ m ∧ m ≤ 8 ∧ atI [V.int 1, V.int 1, V.int 2, V.int 3, V.int 4, V.int 8] d = some (.int (m : Nat)) := by
      obtain ⟨j, rfl⟩ := Int.eq_ofNat_of_zero_le hd0
      have hj : j < 6 := by have : ((j : Nat) : Int) < 6 := hd; omega
      have : j = 0 ∨ j = 1 ∨ j = 2 ∨ j = 3 ∨ j = 4 ∨ j = 5 := by omega
      rcases this with rfl | rfl | rfl | rfl | rfl | rfl
      · exact ⟨1, by omega, by omega, rfl⟩
      · exact ⟨1, by omega, by omega, rfl⟩
      · exact ⟨2, by omega, by omega, rfl⟩
      · exact ⟨3, by omega, by omega, rfl⟩
      · exact ⟨4, by omega, by omega, rfl⟩
      · exact ⟨8, by omega, by omega, rfl⟩
    refine ⟨p, _, _, _, rfl, rfl, SqL.of hp1, hat, ?_⟩
    refine ⟨⟨_, rfl⟩, _, rfl, (m : Nat), rfl, by omega, by omega, fun D nD => ?_⟩
    have nDH : H D = none := S1.free kp nD
    have hDa : D ≠ a := fun z => by
      obtain ⟨ns, c1, c2, c3, g1, g2, _⟩ := S1.ex
      rw [z, g1] at nD; cases nD
    have hDb : D ≠ b := fun z => by
      obtain ⟨ns, c1, c2, c3, g1, g2, _⟩ := S1.ex
      rw [z, g2] at nD; cases nD
    have sUp : ∀ {H' : Hp} {n' : Nat} {o : HO}, StO H' a b n' → StO (upd H' D o) a b n' := fun {H' n' o} s => by
      obtain ⟨ns, c1, c2, c3, g1, g2, g⟩ := s.ex
      exact ⟨ns, c1, c2, c3, by rw [upd_ne (Ne.symm hDa)]; exact g1, by rw [upd_ne (Ne.symm hDb)]; exact g2, g⟩
    have kUp : ∀ {H' : Hp} {o : HO}, Kp (two a b) H H' → Kp (two a b) H (upd H' D o) := fun {H' o} kk c u e ns => by
      rw [upd_ne (ne_of_none e nDH)]; exact kk c u e ns
    refine lc_it walk_range (fun i H' => ∃ ys : List Str, H' D = some (.lst (ys.map V.str)) ∧ ys.length = i ∧ (∀ y ∈ ys, ∃ c ∈ abc.cps.toList, y = ⟨#[c]⟩) ∧ StO H' a b (n + 1 + i) ∧ Kp (two a b) H H') ⟨[], upd_same, rfl, fun y hy => (List.not_mem_nil hy).elim, sUp S1, kUp kp⟩ (fun _ _ _ _ => trivial) ?_ ?_
    · rintro i x H2 H3 hi ⟨ys, g1, g2, g3, S2, k2⟩ ⟨rfl, rfl⟩
      refine ⟨rfl, ?_⟩
      unfold tYes
      dsimp only
      rw [if_pos rfl]
      have hi8 : i < m := by simpa using hi
      refine ⟨_, rfl, a, b, abc, n + 1 + i, rfl, S2, by omega, by decide +kernel, by decide +kernel, fun c H4 hc S4 k4 => ?_⟩
      have g4 := k4 _ _ g1 (fun z => z.elim hDa hDb)
      refine ⟨_, g4, by rw [List.length_map, sizeLine_eq]; omega, ys ++ [⟨#[c]⟩], by rw [upd_same, List.map_append]; rfl, by rw [List.length_append, List.length_singleton]; omega, fun y hy => ?_, sUp S4, kUp (k2.trans k4)⟩
      rcases List.mem_append.mp hy with q | q
      · exact g3 y q
      · exact ⟨c, hc, List.mem_singleton.mp q⟩
    · rintro H2 ⟨ys, g1, g2, g3, S2, k2⟩
      have e : ys.length = m := by rw [g2]; simp
      obtain ⟨w1, w2⟩ := join_isW (by omega) (by omega) g3
      refine ⟨"", D, ys, rfl, rfl, .inl (SqL.of g1), by show _ + ys.length * 0 ≤ _; omega, ?_⟩
      exact k _ _ w1 (S2.le (by rw [← g2, e]; omega)) k2
end
end L2.K1

namespace L2.K1
open PySem PySem.Spec PyProof.Rows L2.Tr
/-! trees beside a stream: what the stream changes is none of theirs, and the other way round -/
structure Out2 (G : Hp) (σ : L2.St) (ρ : L2.Tr.Env) (a b : Addr) : Prop where
  ga : G a = none
  gb : G b = none
  oa : ¬ Own σ ρ a
  ob : ¬ Own σ ρ b
theorem env_out {G H H' : Hp} {σ : L2.St} {ρ : L2.Tr.Env} {a b : Addr} (x : EnvOk G H σ ρ) (o : Out2 G σ ρ a b) (k : Kp (two a b) H H') : EnvOk G H' σ ρ := by
  refine ⟨fun c u e => k c u (x.gh c u e) fun z => ?_, x.len, x.pu, fun i d h => ?_, x.inj⟩
  · rcases z with z | z
    · rw [z, o.ga] at e; cases e
    · rw [z, o.gb] at e; cases e
  · obtain ⟨p, u, h1, h2, h3, h4⟩ := x.ow i d h
    refine ⟨p, u, h1, h2, k p u h3 fun z => ?_, h4⟩
    rcases z with z | z
    · exact o.oa ⟨i, d, h, by rw [← z]; exact h1⟩
    · exact o.ob ⟨i, d, h, by rw [← z]; exact h1⟩
theorem sto_frs {G H G2 H2 : Hp} {σ σ2 : L2.St} {ρ ρ2 : L2.Tr.Env} {a b : Addr} {n : Nat} (s : StO H a b n) (o : Out2 G σ ρ a b) (f : FrS σ ρ G H σ2 ρ2 G2 H2) : StO H2 a b n ∧ Out2 G2 σ2 ρ2 a b ∧ ∀ S : Addr → Prop, (∀ c, Own σ ρ c → S c) → Kp S H H2 := by
  obtain ⟨ns, c1, c2, c3, g1, g2, g⟩ := s.ex
  have na : H a ≠ none := by rw [g1]; exact fun z => nomatch z
  have nb : H b ≠ none := by rw [g2]; exact fun z => nomatch z
  refine ⟨⟨ns, c1, c2, c3, f.h _ _ g1 o.oa, f.h _ _ g2 o.ob, g⟩, ⟨f.nw a na o.ga o.oa, f.nw b nb o.gb o.ob, fun z => ?_, fun z => ?_⟩, fun S hS c u e hc => f.h c u e fun z => hc (hS c z)⟩
  · rcases f.ow a z with q | q
    · exact o.oa q
    · exact na q
  · rcases f.ow b z with q | q
    · exact o.ob q
    · exact nb q
end L2.K1

namespace L2.K1
open PySem PySem.Spec PyProof.Rows L2.Tr
section
variable {P : Program} {w : World} {K : PySem.W.Frag} {mg : Str → Option Value} {base : Heap}
abbrev sWords : Stmt := top 28
abbrev nWords : List Str := ["_law_stream", "_law_many", "_law_found", "_law_k", "_law_word_here", "_law_spare_here", "_law_letter", "_law_one"]
theorem scWords : FnScope nWords ["_law_stream", "_law_many"] (defScope sWords) := ⟨rfl, rfl, rfl, by decide +kernel, rfl, by decide +kernel, by decide +kernel⟩
def FSp : L2.Tr.Env → Option D := (bin2 addD (mapS (lstDisp (consD (atP 4) nilD))) (mapS (lcF [6] (strsF (kD (.leaf (.str "abcdefghijklmnop")))) (setF 6) yesF (bin2 addD (bin2 addD (atP 6) (kD (.leaf (.str "q")))) (atP 6)))))
def FAp : L2.Tr.Env → Option D := (bin2 ixD (mapS (lcF [7] (seqsF (atP 5)) (setF 7) (andB (asBF (bin2 (inD true) (atP 7) (atV 2))) (asBF (bin2 (scD true) (atP 7) (kD (.leaf (.str "number")))))) (atP 7))) (kD (.leaf (.int 0))))
/-- a turn of words, behind the word that was drawn -/
def FTurn : L2.Tr.Env → Option Out := (seqF (asgF (bin2 addD (mapS (lstDisp (consD (atP 4) nilD))) (mapS (lcF [6] (strsF (kD (.leaf (.str "abcdefghijklmnop")))) (setF 6) yesF (bin2 addD (bin2 addD (atP 6) (kD (.leaf (.str "q")))) (atP 6))))) (setF 5)) (growF 2 (bin2 ixD (mapS (lcF [7] (seqsF (atP 5)) (setF 7) (andB (asBF (bin2 (inD true) (atP 7) (atV 2))) (asBF (bin2 (scD true) (atP 7) (kD (.leaf (.str "number")))))) (atP 7))) (kD (.leaf (.int 0)))) fun xs d => xs ++ [d]))
def forBody (b : List Stmt) (i : Nat) : List Stmt := match b.getD i (.Pass ⟨0, 0, 0, 0⟩) with
  | .For _ _ body _ _ => body
  | _ => []
def asgVal (b : List Stmt) (i : Nat) : Expr := match b.getD i (.Pass ⟨0, 0, 0, 0⟩) with
  | .Assign _ e _ => e
  | _ => .Constant .none 0 ⟨0, 0, 0, 0⟩
def appArg (b : List Stmt) (i : Nat) : Expr := match b.getD i (.Pass ⟨0, 0, 0, 0⟩) with
  | .Expr (.Call _ (e :: _) _ _) _ => e
  | _ => .Constant .none 0 ⟨0, 0, 0, 0⟩
theorem sp_d {f : Addr} (B : TxB mg) {cdv : Value} {A : Around} {outer : List PySem.Env} {s : Shared} {H : Hp} {E : XK} {k : Nat} (hr : Room k (A.deeper (envOfC "_law_words" (defScope sWords) s.heap.objs.size f cdv))) :
    ∃ t, PuD (cxOf CX0 P w K mg base nWords "_law_words" (defScope sWords) f cdv A outer s H E).nox (asgVal (forBody (defBody sWords) 1) 1) t FSp := ⟨_, (pu_add (PuD.vi (OwD.pu (ow_lst (ar_cons (pu_var (pv 4)) ar_nil)))) (PuD.vi (OwD.pu (LcD.ow (lc0 [("_law_letter", 6)] (it_str (pu_c pe_str (by decide +kernel))) (blkOk_by (N := nWords) (sc := defScope sWords) (by decide +kernel)) (fun _ _ _ _ _ => (tg_name (pg_name (i := 6) scWords.nd rfl (Or.inl rfl)))) (fun _ _ _ _ _ => (tw_name (by decide))) (fun _ _ _ _ _ => (pu_add (PuD.vi (pu_add (PuD.vi (pu_var (pv 6))) (PuD.vi (pu_c pe_str (by decide +kernel))))) (PuD.vi (pu_var (pv 6)))))) rfl scWords.nd))))⟩
theorem ap_d {f : Addr} (B : TxB mg) {cdv : Value} {A : Around} {outer : List PySem.Env} {s : Shared} {H : Hp} {E : XK} {k : Nat} (hr : Room k (A.deeper (envOfC "_law_words" (defScope sWords) s.heap.objs.size f cdv))) :
    ∃ t, PuD (cxOf CX0 P w K mg base nWords "_law_words" (defScope sWords) f cdv A outer s H E).nox (appArg (forBody (defBody sWords) 1) 2) t FAp := ⟨_, (pu_ix (PuD.vi (OwD.pu (LcD.ow (lcI [("_law_one", 7)] (it_seq (pu_var (pv 5))) (blkOk_by (N := nWords) (sc := defScope sWords) (by decide +kernel)) (fun _ _ _ _ _ => (tg_name (pg_name (i := 7) scWords.nd rfl (Or.inl rfl)))) (fun _ _ _ _ _ => (tw_name (by decide))) (fun _ _ _ _ _ => (TwD.te (tw_and (te_cmp op_notIn_seq r2_in (by with_unfolding_all rfl) (PuD.vi (pu_var (pv 7))) (vi_var (pv 2))) (tw_and1 (te_cmp op_ne r2_neS (nomark _) (PuD.vi (pu_var (pv 7))) (PuD.vi (pu_c pe_str (by decide +kernel)))))))) (fun _ _ _ _ _ => (pu_var (pv 7)))) rfl scWords.nd))) (PuD.vi (pu_c pe_int rfl)) (fun _ _ => rfl))⟩
theorem turn_d {f : Addr} (B : TxB mg) {cdv : Value} {A : Around} {outer : List PySem.Env} {s : Shared} {H : Hp} {E : XK} {k : Nat} (hr : Room k (A.deeper (envOfC "_law_words" (defScope sWords) s.heap.objs.size f cdv))) :
    ∃ t, SsD (cxOf CX0 P w K mg base nWords "_law_words" (defScope sWords) f cdv A outer s H E).nox (forBody (defBody sWords) 1).tail t FTurn :=
  ⟨_, (ss_cons (sd_nm (pu_add (PuD.vi (OwD.pu (ow_lst (ar_cons (pu_var (pv 4)) ar_nil)))) (PuD.vi (OwD.pu (LcD.ow (lc0 [("_law_letter", 6)] (it_str (pu_c pe_str (by decide +kernel))) (blkOk_by (N := nWords) (sc := defScope sWords) (by decide +kernel)) (fun _ _ _ _ _ => (tg_name (pg_name (i := 6) scWords.nd rfl (Or.inl rfl)))) (fun _ _ _ _ _ => (tw_name (by decide))) (fun _ _ _ _ _ => (pu_add (PuD.vi (pu_add (PuD.vi (pu_var (pv 6))) (PuD.vi (pu_c pe_str (by decide +kernel))))) (PuD.vi (pu_var (pv 6)))))) rfl scWords.nd)))) (fun h => ps_set (i := 5) scWords.nd rfl (by first | exact Or.inl rfl | exact Or.inr rfl) h)) (ss_one (sd_appK (i := 2) (pu_ix (PuD.vi (OwD.pu (LcD.ow (lcI [("_law_one", 7)] (it_seq (pu_var (pv 5))) (blkOk_by (N := nWords) (sc := defScope sWords) (by decide +kernel)) (fun _ _ _ _ _ => (tg_name (pg_name (i := 7) scWords.nd rfl (Or.inl rfl)))) (fun _ _ _ _ _ => (tw_name (by decide))) (fun _ _ _ _ _ => (TwD.te (tw_and (te_cmp op_notIn_seq r2_in (by with_unfolding_all rfl) (PuD.vi (pu_var (pv 7))) (vi_var (pv 2))) (tw_and1 (te_cmp op_ne r2_neS (nomark _) (PuD.vi (pu_var (pv 7))) (PuD.vi (pu_c pe_str (by decide +kernel)))))))) (fun _ _ _ _ _ => (pu_var (pv 7)))) rfl scWords.nd))) (PuD.vi (pu_c pe_int rfl)) (fun _ _ => rfl)) (fun h => ps_expr (pe_bm PySem.F.plainAttrs_list PySem.F.slot_list_append PySem.F.type_list_append mt_append (pv 2) (pa_cons h pa_nil))))))⟩
end
end L2.K1

namespace L2.K1
open PySem PySem.Spec PyProof.Rows L2.Tr
def letp : Str := "abcdefghijklmnop"
def cand16 : List Str := letp.cps.toList.map fun c => ((⟨#[c]⟩ : Str) ++ ("q" : Str)) ++ (⟨#[c]⟩ : Str)
theorem c16_w : ∀ x ∈ cand16, isW x = true ∧ x ≠ "number" := by decide +kernel
theorem c16_nd : cand16.Nodup := by decide +kernel
theorem c16_len : cand16.length = 16 := by decide +kernel
def okNew (fs : List Str) (y : Str) : Bool := !decide (y ∈ fs) && decide (y ≠ "number")
theorem new_ex {fs : List Str} {x : Str} (hl : fs.length ≤ 15) (hx : isW x = true) : ∃ y r, (x :: cand16).filter (okNew fs) = y :: r ∧ isW y = true ∧ y ≠ "number" ∧ y ∉ fs := by
  have mem : ∀ y ∈ (x :: cand16).filter (okNew fs), isW y = true ∧ y ≠ "number" ∧ y ∉ fs := fun y hy => by
    obtain ⟨h1, h2⟩ := List.mem_filter.mp hy
    unfold okNew at h2
    rw [Bool.and_eq_true] at h2
    refine ⟨?_, of_decide_eq_true h2.2, fun z => by rw [decide_eq_true z] at h2; exact Bool.false_ne_true h2.1⟩
    rcases List.mem_cons.mp h1 with z | z
    · rw [z]; exact hx
    · exact (c16_w y z).1
  cases e : (x :: cand16).filter (okNew fs) with
  | cons y r =>
    have := mem y (by rw [e]; exact List.mem_cons_self)
    exact ⟨y, r, rfl, this⟩
  | nil =>
    exfalso
    have all : ∀ y ∈ cand16, y ∈ fs := fun y hy => by
      by_cases z : y ∈ fs
      · exact z
      · have : y ∈ (x :: cand16).filter (okNew fs) := List.mem_filter.mpr ⟨List.mem_cons_of_mem _ hy, by unfold okNew; rw [decide_eq_false z, decide_eq_true (c16_w y hy).2]; rfl⟩
        rw [e] at this; cases this
    have := sub_len c16_nd all
    rw [c16_len] at this
    omega
theorem sp_ok {s0 s1 s2 s3 s5 s6 s7 : Sl} {x : Str} : FSp [s0, s1, s2, s3, .pu (sD x), s5, s6, s7] = some (.seq true ((x :: cand16).map sD)) := by
  have hLim : Lim = 5000 := rfl
  have c : lcF [6] (strsF (kD (.leaf (.str "abcdefghijklmnop")))) (setF 6) yesF (bin2 addD (bin2 addD (atP 6) (kD (.leaf (.str "q")))) (atP 6)) [s0, s1, s2, s3, .pu (sD x), s5, s6, s7] = some (cand16.map sD) := by
    rw [lc_ (ds := L2.Tr.signs letp) rfl (by decide +kernel)]
    rw [comp_map (g := fun d => match d with
      | .leaf (.str u) => sD ((u ++ ("q" : Str)) ++ u)
      | d => d) fun d hd => ?_]
    · unfold L2.Tr.signs cand16
      rw [List.map_map, List.map_map]
      rfl
    · unfold L2.Tr.signs at hd
      obtain ⟨c, hc, rfl⟩ := List.mem_map.mp hd
      exact ⟨_, rfl, rfl, rfl⟩
  unfold FSp
  rw [bin_2 (d := .seq true [sD x]) (maps_ (lst_ (cons_ rfl rfl) (by show (1 : Nat) ≤ Lim; decide))) (maps_ c), add_lst]
  · rfl
  · rw [List.length_singleton, List.length_map, c16_len]; omega
theorem ap_ok {s0 s1 s3 s4 s6 s7 : Sl} {fs : List Str} {x : Str} (hl : fs.length ≤ 15) (hx : isW x = true) : ∃ y, isW y = true ∧ y ≠ "number" ∧ y ∉ fs ∧
    FAp [s0, s1, .ow (.seq true (fs.map sD)), s3, s4, .pu (.seq true ((x :: cand16).map sD)), s6, s7] = some (sD y) := by
  obtain ⟨y, r, e, h1, h2, h3⟩ := new_ex hl hx
  refine ⟨y, h1, h2, h3, ?_⟩
  have hLim : Lim = 5000 := rfl
  have f : lcF [7] (seqsF (atP 5)) (setF 7) (andB (asBF (bin2 (inD true) (atP 7) (atV 2))) (asBF (bin2 (scD true) (atP 7) (kD (.leaf (.str "number")))))) (atP 7) [s0, s1, .ow (.seq true (fs.map sD)), s3, s4, .pu (.seq true ((x :: cand16).map sD)), s6, s7] = some (((x :: cand16).filter (okNew fs)).map sD) := by
    rw [lc_ (ds := (x :: cand16).map sD) rfl (by rw [List.length_map, List.length_cons, c16_len]; omega)]
    rw [comp_flt (p := fun d => match d with
      | .leaf (.str u) => okNew fs u
      | _ => false) (g := fun d => d) fun d hd => ?_]
    · rw [List.map_id', List.filter_map]
      rfl
    · obtain ⟨u, hu, rfl⟩ := List.mem_map.mp hd
      refine ⟨[s0, s1, .ow (.seq true (fs.map sD)), s3, s4, .pu (.seq true ((x :: cand16).map sD)), s6, .pu (sD u)], rfl, ?_, fun _ => rfl⟩
      have i1 : asBF (bin2 (inD true) (atP 7) (atV 2)) [s0, s1, .ow (.seq true (fs.map sD)), s3, s4, .pu (.seq true ((x :: cand16).map sD)), s6, .pu (sD u)] = some (!decide (u ∈ fs)) := by
        refine asB_ ?_
        rw [bin_2 (d := sD u) (e := .seq true (fs.map sD)) rfl rfl, inD_str, Bool.true_xor]
      have i2 : asBF (bin2 (scD true) (atP 7) (kD (.leaf (.str "number")))) [s0, s1, .ow (.seq true (fs.map sD)), s3, s4, .pu (.seq true ((x :: cand16).map sD)), s6, .pu (sD u)] = some (decide (u ≠ "number")) := by
        refine asB_ ?_
        show some (bD (xor true (decide (V.str u = V.str "number")))) = _
        congr 2
        by_cases z : u = "number"
        · rw [decide_eq_true (by rw [z]), decide_eq_false (fun w => w z)]; rfl
        · rw [decide_eq_false (fun w => z (V.str.inj w)), decide_eq_true z]; rfl
      unfold andB
      rw [i1, Option.bind_some, i2]
      show _ = some (!decide (u ∈ fs) && decide (u ≠ "number"))
      cases (!decide (u ∈ fs)) <;> rfl
  unfold FAp
  rw [bin_2 (maps_ f) (e := .leaf (.int 0)) rfl, e]
  show atI ((y :: r).map sD) 0 = _
  unfold L2.atI L2.ixN
  simp
end L2.K1

namespace L2.K1
open PySem PySem.Spec PyProof.Rows L2.Tr
/-- so many unlike words, in a new list -/
def spWords : Sp := fun vs H Q _ => ∃ (a b : Addr) (m n : Nat), vs = [.ref a, .int (m : Nat)] ∧ StO H a b n ∧ m ≤ 15 ∧ n + 9 * m ≤ 1000000 ∧
  ∀ (xs : List Str) (p : Addr) (H' : Hp), xs.length = m → xs.Nodup → (∀ x ∈ xs, isW x = true ∧ x ≠ "number") → H p = none → H' p = some (.lst (xs.map V.str)) → StO H' a b (n + 9 * m) → Kp (two a b) H H' → Q (.ref p) H'
theorem leafW {x : Str} (h : isW x = true) : leafy (.str x) = true := by
  have := isW_len h
  first
    | exact decide_eq_true (by omega)
    | (unfold leafy; simp; omega)
    | (unfold leafy; exact decide_eq_true (by omega))
theorem StO.ne {H : Hp} {a b p : Addr} {n : Nat} (s : StO H a b n) (h : H p = none) : p ≠ a ∧ p ≠ b := by
  obtain ⟨ns, c1, c2, c3, g1, g2, _⟩ := s.ex
  exact ⟨fun z => (by rw [z, g1] at h; cases h), fun z => (by rw [z, g2] at h; cases h)⟩
theorem StO.up {H : Hp} {a b p : Addr} {n : Nat} {o : HO} (s : StO H a b n) (ha : p ≠ a) (hb : p ≠ b) : StO (upd H p o) a b n := by
  obtain ⟨ns, c1, c2, c3, g1, g2, g⟩ := s.ex
  exact ⟨ns, c1, c2, c3, by rw [upd_ne (Ne.symm ha)]; exact g1, by rw [upd_ne (Ne.symm hb)]; exact g2, g⟩
theorem Kp.up {S : Addr → Prop} {H H' : Hp} {p : Addr} {o : HO} (k : Kp S H H') (h : H p = none) : Kp S H (upd H' p o) := fun c u e ns => by
  rw [upd_ne (ne_of_none e h)]; exact k c u e ns
section
variable {P : Program} {w : World} {K : PySem.W.Frag} {mg : Str → Option Value} {base : Heap}
theorem ok_words {f fw : Addr} {fd dw : FuncData} (F : Fun K "_law_words" "_law_words" sWords f fd) (B : TxB mg) (m_w : mg "_law_word" = some (.ref fw)) (k_w : PySem.W.keepIn K (.ref fw) = true) (GW : FnOk P w K mg base CX0 3 fw dw ["_law_stream"] spWord) (bW : Binds K dw ["_law_stream"] []) :
    FnOk P w K mg base CX0 4 f fd ["_law_stream", "_law_many"] spWords := by
  refine F.ok scWords (fun vs H Q E h => ?_) (fun cdv A outer s H vs Q E hr h => ?_)
  · obtain ⟨a, b, m, n, rfl, _⟩ := h
    rfl
  · obtain ⟨a, b, m, n, rfl, S, hm, hn, k⟩ := h
    obtain ⟨tS, DS⟩ := sp_d (P := P) (w := w) (K := K) (mg := mg) (base := base) (f := f) (cdv := cdv) (A := A) (outer := outer) (s := s) (H := H) (E := E) B hr
    obtain ⟨tA, DA⟩ := ap_d (P := P) (w := w) (K := K) (mg := mg) (base := base) (f := f) (cdv := cdv) (A := A) (outer := outer) (s := s) (H := H) (E := E) B hr
    refine ⟨_, (pss_cons (ps_set (i := 2) scWords.nd rfl (by first | exact Or.inl rfl | exact Or.inr rfl) (pe_lst pa_nil))
      (pss_cons (ps_for PassesOwn.never rfl (pi_range1 (by rfl) B.z_range (pa_cons (pv 1) pa_nil)) (pg_name (i := 3) scWords.nd rfl (by first | exact Or.inl rfl | exact Or.inr rfl))
        (pss_cons (ps_set (i := 4) scWords.nd rfl (by first | exact Or.inl rfl | exact Or.inr rfl) (pe_call GW (hr.mono (by decide)) rfl m_w k_w bW .nil pass0 (pa_cons (pv 0) pa_nil)))
          (pss_cons (ps_set (i := 5) scWords.nd rfl (by first | exact Or.inl rfl | exact Or.inr rfl) DS.pe)
            (pss_one (ps_expr (pe_bm PySem.F.plainAttrs_list PySem.F.slot_list_append PySem.F.type_list_append mt_append (pv 2) (pa_cons DA.pe pa_nil)))))))
      (pss_one (ps_ret (pv 2))))), ?_⟩
    refine ⟨by show 0 ≤ sizeLine; decide, fun p np => ?_⟩
    obtain ⟨hpa, hpb⟩ := S.ne np
    refine ⟨_, rfl, (m : Nat), rfl, by omega, by omega, ?_⟩
    refine for_it walk_range (fun i σ' H' => ∃ (xs : List Str) (s1 s3 s4 s5 s6 s7 : Option V), σ' = [some (.ref a), s1, some (.ref p), s3, s4, s5, s6, s7] ∧ H' p = some (.lst (xs.map V.str)) ∧ xs.length = i ∧ xs.Nodup ∧ (∀ x ∈ xs, isW x = true ∧ x ≠ "number") ∧ StO H' a b (n + 9 * i) ∧ Kp (two a b) H H')
      ⟨[], _, _, _, _, _, _, rfl, upd_same, rfl, List.nodup_nil, fun x hx => (List.not_mem_nil hx).elim, S.up hpa hpb, (Kp.refl H).up np⟩ (fun _ _ _ _ _ => trivial) ?_ ?_
    · rintro i y σ' H' H'' hi ⟨xs, s1, s3, s4, s5, s6, s7, rfl, hp, hxl, hnd, hg, S1, k1⟩ ⟨rfl, rfl⟩
      have hi8 : i < m := by simpa using hi
      refine ⟨_, rfl, a, b, n + 9 * i, rfl, S1, by omega, fun x H2 hx S2 k2 => ?_⟩
      have hp2 := k2 _ _ hp fun z => z.elim hpa hpb
      have x0 : EnvOk (fun _ => none) H2 [some (.ref a), s1, some (.ref p), some (.int (0 + (i : Nat))), some (.str x), s5, s6, s7] [.un, .un, .ow (.seq true (xs.map sD)), .un, .pu (sD x), .un, .un, .un] := by
        have own2 : ∀ (j : Nat) (d : D), ([.un, .un, .ow (.seq true (xs.map sD)), .un, .pu (sD x), .un, .un, .un] : L2.Tr.Env)[j]? = some (.ow d) → j = 2 ∧ d = .seq true (xs.map sD) := fun j d hj => by
          match j, hj with
          | 0, hj => cases hj
          | 1, hj => cases hj
          | 2, hj => cases hj; exact ⟨rfl, rfl⟩
          | 3, hj => cases hj
          | 4, hj => cases hj
          | 5, hj => cases hj
          | 6, hj => cases hj
          | 7, hj => cases hj
          | j + 8, hj => simp at hj
        refine ⟨fun c o z => (by cases z), rfl, fun j d hj => ?_, fun j d hj => ?_, fun j l ds es q h1 h2 h3 h4 => by rw [(own2 j ds h1).1, (own2 l es h2).1]⟩
        · match j, hj with
          | 0, hj => cases hj
          | 1, hj => cases hj
          | 2, hj => cases hj
          | 3, hj => cases hj
          | 4, hj => cases hj; exact ⟨_, rfl, .lf (leafW hx)⟩
          | 5, hj => cases hj
          | 6, hj => cases hj
          | 7, hj => cases hj
          | j + 8, hj => simp at hj
        · obtain ⟨rfl, rfl⟩ := own2 j d hj
          exact ⟨p, _, rfl, rfl, hp2, xs.map V.str, rfl, by rw [List.length_map]; have : Lim = 5000 := rfl; omega, by
            have : xs.map sD = (xs.map V.str).map D.leaf := by rw [List.map_map]; rfl
            rw [this]
            exact Reps.lfs fun v hv => by obtain ⟨z, hz, rfl⟩ := List.mem_map.mp hv; exact leafW (hg z hz).1⟩
      refine DS.ev _ _ sp_ok _ H2 _ x0 _ fun v G3 H3 f3 r3 => ?_
      obtain ⟨z, z1, z2, z3, z4⟩ := ap_ok (s0 := .un) (s1 := .un) (s3 := .un) (s4 := .pu (sD x)) (s6 := .un) (s7 := .un) (fs := xs) (x := x) (by omega) hx
      have x3 := (x0.mono f3).setP r3 5
      refine ⟨_, rfl, .inl ⟨rfl, _, SqL.of (f3.h _ _ hp2)⟩, DA.ev _ _ z4 G3 H3 _ x3 _ fun v4 G4 H4 f4 r4 => ?_⟩
      obtain ⟨rfl, _⟩ := r4.un_lf
      have hp4 := f4.h _ _ (f3.h _ _ hp2)
      refine ⟨p, xs.map V.str, _, rfl, rfl, hp4, by rw [List.length_map, sizeLine_eq]; omega, xs ++ [z], _, _, _, _, _, _, rfl, by rw [upd_same, List.map_append]; rfl, by rw [List.length_append, List.length_singleton]; omega, ?_, fun u hu => ?_, ?_, ?_⟩
      · rw [List.nodup_append]
        exact ⟨hnd, by simp, fun u hu t ht e => z3 (by rw [← List.mem_singleton.mp ht, ← e]; exact hu)⟩
      · rcases List.mem_append.mp hu with q | q
        · exact hg u q
        · rw [List.mem_singleton.mp q]; exact ⟨z1, z2⟩
      · have := ((S2.kp f3.h).kp f4.h).up (o := .lst (xs.map V.str ++ [.str z])) hpa hpb
        rw [show n + 9 * (i + 1) = n + 9 * i + 9 by omega]
        exact this
      · exact ((k1.trans k2).trans ((Kp.of f3.h).trans (Kp.of f4.h))).up np
    · rintro σ' H' ⟨xs, s1, s3, s4, s5, s6, s7, rfl, hp, hxl, hnd, hg, S1, k1⟩
      have hl : xs.length = m := by rw [hxl]; simp
      refine ⟨_, rfl, k xs p H' hl hnd hg np hp ?_ k1⟩
      exact S1.le (by omega)
end
end L2.K1

/-! Trees: sum of a list, displays of dicts. -/
namespace L2.Tr
open PySem PySem.Spec PyProof.Rows
def intsOf : List D → Option (List Int)
  | [] => some []
  | .leaf (.int i) :: r => (intsOf r).map (i :: ·)
  | _ :: _ => none
theorem ints_un : ∀ {ds : List D} {ns : List Int}, intsOf ds = some ns → ds = (ns.map V.int).map D.leaf
  | [], ns, h => by cases h; rfl
  | d :: r, ns, h => by
    unfold intsOf at h
    split at h
    · rename_i hh; cases hh
    · rename_i b r' hh
      obtain ⟨ws, h1, rfl⟩ := Option.map_eq_some_iff.mp h
      injection hh with e1 e2
      subst e1 e2
      rw [ints_un h1]; rfl
    · cases h
def sumD : List D → Option D
  | [.seq true ds] => (intsOf ds).map fun ns => .leaf (.int ns.sum)
  | _ => none
theorem r1_sum {K : PySem.W.Frag} : R1D (rSum K) sumD := fun ds z e G H vs x r1 Q k => by
  unfold sumD at e
  split at e
  · rename_i ds
    obtain ⟨ns, h1, rfl⟩ := Option.map_eq_some_iff.mp e
    obtain rfl := ints_un h1
    obtain ⟨v, rfl, r⟩ := views1 r1
    obtain ⟨a, us, rfl, h1, l1, q⟩ := r.seq x
    obtain ⟨rfl, _⟩ := reps_leafy q
    exact ⟨a, ns, rfl, SqL.of h1, k _ G H (.refl x) (.lf rfl)⟩
  · cases e
/-! {"k": e, ..} -/
section
variable {X : Cx} {e k : Expr} {t : TE} {φ : Env → Option D} {ψ : Env → Option (List D)} {pos : Pos} {keys : List (Option Expr)} {values : List Expr} {trs : List (TE × TE)}
structure DsD (X : Cx) (pos : Pos) (keys : List (Option Expr)) (values : List Expr) (trs : List (TE × TE)) (ks : List Str) (ψ : Env → Option (List D)) : Prop where
  pps : PPs X pos keys values trs
  ev : ∀ ρ ds, ψ ρ = some ds → ∀ (G H : Hp) (σ : St), EnvOk G H σ ρ → ∀ Q : List (V × V) → Hp → Prop, (∀ vs G2 H2, Fr G H G2 H2 → Reps G2 ds vs → vs.length = ks.length → Q ((ks.map V.str).zip vs) H2) → tPairs trs σ H Q
theorem ds_nil : DsD X pos [] [] [] [] nilD := ⟨pps_nil, fun ρ ds ee G H σ x Q k => by cases ee; exact k [] G H (.refl x.gh) .nil rfl⟩
theorem ds_cons {x : Str} {ks : List Str} (hk : PE X k (tC (.str x))) (hv : PuD X e t φ) (hr : DsD X pos keys values trs ks ψ) : DsD X pos (some k :: keys) (e :: values) ((tC (.str x), t) :: trs) (x :: ks) (consD φ ψ) := ⟨pps_cons hk hv.pe hr.pps, fun ρ ds ee G H σ x0 Q kk => by
  obtain ⟨d, ds', e1, e2, rfl⟩ := consD_un ee
  show t σ H _
  refine hv.ev ρ d e1 G H σ x0 _ fun v G1 H1 f1 r1 => ?_
  refine hr.ev ρ ds' e2 G1 H1 σ (x0.mono f1) _ fun vs G2 H2 f2 r2 l2 => ?_
  exact kk (v :: vs) G2 H2 (f1.trans f2) (.cons (r1.mono f2.g) r2) (by rw [List.length_cons, List.length_cons, l2])⟩
theorem valV_off {k : Key} : ∀ {ks : List Key} {us : List V}, k ∉ ks → valV (ks.zip us) k = none
  | [], us, _ => rfl
  | a :: ks, [], _ => rfl
  | a :: ks, u :: us, h => by
    rw [List.zip_cons_cons, valV_neg (fun z => h (by rw [← z]; exact List.mem_cons_self))]
    exact valV_off fun z => h (List.mem_cons_of_mem _ z)
theorem merge_zip : ∀ {ks acc : List Key} {vs as : List V}, (acc ++ ks).Nodup → acc.length = as.length → ks.length = vs.length → mergeK (acc.zip as) (ks.zip vs) = (acc ++ ks).zip (as ++ vs)
  | [], acc, vs, as, _, h1, h2 => by
    have : vs = [] := List.length_eq_zero_iff.mp h2.symm
    subst this
    rw [List.append_nil, List.append_nil]; rfl
  | k :: ks, acc, [], as, _, _, h2 => by simp at h2
  | k :: ks, acc, v :: vs, as, hn, h1, h2 => by
    have hk : k ∉ acc := fun z => (List.nodup_append.mp hn).2.2 _ z _ List.mem_cons_self rfl
    show mergeK (putK (acc.zip as) k v) (ks.zip vs) = _
    have e : putK (acc.zip as) k v = (acc ++ [k]).zip (as ++ [v]) := by
      rw [putK_new v (valV_off hk), List.zip_append h1]; rfl
    rw [e, merge_zip (by rw [List.append_assoc]; exact hn) (by rw [List.length_append, List.length_append, h1]; rfl) (by simpa using h2), List.append_assoc, List.append_assoc]
    rfl
def dispF (ks : List Str) (ψ : Env → Option (List D)) : Env → Option D := fun ρ => (ψ ρ).bind fun ds => if ds.length = ks.length then some (.dct (ks.map Sum.inr) ds) else none
theorem zip_kv : ∀ {ks : List Str} {vs : List V}, (ks.map V.str).zip vs = (((ks.map Sum.inr : List Key).zip vs).map fun kv => (kV kv.1, kv.2))
  | [], _ => rfl
  | k :: ks, [] => rfl
  | k :: ks, v :: vs => by
    rw [List.map_cons, List.map_cons, List.zip_cons_cons, List.zip_cons_cons, List.map_cons, zip_kv]
    rfl
theorem pu_disp {ks : List Str} (h : DsD X pos keys values trs ks ψ) (hn : ks.Nodup) (hk : ks.length ≤ 15) (hall : keys.all (·.isSome) = true) (hl : keys.length = values.length) (h0 : keys ≠ [])
    (h15 : keys.length ≤ 15) : PuD X (.Dict keys values pos) (tDisp trs) (dispF ks ψ) := ⟨pe_disp h.pps hall hl h0 h15, fun ρ d ee G H σ x Q k => by
  obtain ⟨ds, e1, e2⟩ := Option.bind_eq_some_iff.mp ee
  split at e2
  · rename_i hd
    cases e2
    intro p np
    have f0 : Fr G H G (upd H p (.dK [])) := .tmp x.gh np
    refine h.ev ρ ds e1 G _ σ (x.mono f0) _ fun vs G2 H2 f2 r2 l2 => ?_
    have hp2 := f2.h _ _ (upd_same (a := p) (o := (.dK [] : HO)))
    have gp2 : G2 p = none := f2.nw p (by rw [upd_same]; exact fun z => by cases z) (x.gh.back np)
    refine ⟨hp2, (ks.map Sum.inr : List Key).zip vs, zip_kv, by rw [List.length_zip, List.length_map]; omega, ?_⟩
    have e : mergeK [] ((ks.map Sum.inr : List Key).zip vs) = (ks.map Sum.inr).zip vs := by
      have := merge_zip (ks := ks.map Sum.inr) (acc := []) (vs := vs) (as := []) (by
        rw [List.nil_append]
        exact List.pairwise_map.mpr (hn.imp fun z w => z (Sum.inr.inj w))) rfl (by rw [List.length_map, l2])
      exact this
    rw [e]
    refine k (.ref p) (upd G2 p (.dK ((ks.map Sum.inr).zip vs))) _ ⟨f2.g.trans (Ex.new gp2), fun a o z => ?_, fun a o z => ?_, fun a z1 z2 => ?_⟩ (.dc upd_same (by rw [List.length_map, hd]) (by have : Lim = 5000 := rfl; omega) (r2.mono (Ex.new gp2)))
    · by_cases q : a = p
      · rw [q, upd_same] at z ⊢; exact z
      · rw [upd_ne q] at z ⊢; exact f2.gh _ _ z
    · have q : a ≠ p := ne_of_none z np
      rw [upd_ne q]
      exact f2.h _ _ (by rw [upd_ne q]; exact z)
    · have q : a ≠ p := fun w => z1 (w ▸ np)
      rw [upd_ne q]
      exact f2.nw a (by rw [upd_ne q]; exact z1) z2
  · cases e2⟩
end
end L2.Tr

namespace L2.K1
open PySem PySem.Spec PyProof.Rows L2.Tr
section
variable {P : Program} {w : World} {K : PySem.W.Frag} {mg : Str → Option Value} {base : Heap}
abbrev sWorld : Stmt := top 19
abbrev nWorld : List Str := ["_law_stream", "_law_shapes", "_law_counts", "_law_free", "_law_drawn", "_law_names", "_law_values", "_law_left", "_law_many"]
theorem scWorld : FnScope nWorld ["_law_stream", "_law_shapes"] (defScope sWorld) := ⟨rfl, rfl, rfl, by decide +kernel, rfl, by decide +kernel, by decide +kernel⟩
def callArg (b : List Stmt) (i j : Nat) : Expr := match b.getD i (.Pass ⟨0, 0, 0, 0⟩) with
  | .Assign _ (.Call _ es _ _) _ => es.getD j (.Constant .none 0 ⟨0, 0, 0, 0⟩)
  | _ => .Constant .none 0 ⟨0, 0, 0, 0⟩
def asgTg (b : List Stmt) (i : Nat) : Expr := match b.getD i (.Pass ⟨0, 0, 0, 0⟩) with
  | .Assign (e :: _) _ _ => e
  | _ => .Constant .none 0 ⟨0, 0, 0, 0⟩
/-- behind the words that were drawn -/
def FWorld : L2.Tr.Env → Option Out := (seqF (par_po 5 6 (orE (mapS (slF slO (atP 4) (fun _ => some none) (partF (bin2 addD (app1 lenA (consD (atP 2) nilD)) (atP 3))))) (slF slT (atP 4) (fun _ => some none) (partF (bin2 addD (app1 lenA (consD (atP 2) nilD)) (atP 3))))) (lstDisp nilD)) (seqF (asgF (orE (mapS (slF slO (atP 4) (partF (bin2 addD (app1 lenA (consD (atP 2) nilD)) (atP 3))) (fun _ => some none))) (slF slT (atP 4) (partF (bin2 addD (app1 lenA (consD (atP 2) nilD)) (atP 3))) (fun _ => some none))) (setF 7)) (seqF (forF (seqsF (atP 2)) (setF 8) (seqF (growF 6 (app1 tupD (consD (orE (mapS (slF slO (atP 7) (fun _ => some none) (partF (atP 8)))) (slF slT (atP 7) (fun _ => some none) (partF (atP 8)))) nilD)) fun xs d => xs ++ [d]) (asgF (orE (mapS (slF slO (atP 7) (partF (atP 8)) (fun _ => some none))) (slF slT (atP 7) (partF (atP 8)) (fun _ => some none))) (setF 7)))) (seqF (ifS (andB (asBF (chainF (eqP false) (eqP true) (orE (mapS (slF slO (atP 2) (fun _ => some none) (partF (kD (.leaf (.int 1)))))) (slF slT (atP 2) (fun _ => some none) (partF (kD (.leaf (.int 1)))))) (orE (mapS (slF slO (atP 2) (partF (kD (.leaf (.int 1)))) (partF (kD (.leaf (.int 2)))))) (slF slT (atP 2) (partF (kD (.leaf (.int 1)))) (partF (kD (.leaf (.int 2)))))) (mapS (lstDisp nilD)))) (fun _ => none)) neverF skipF) (retF (dispF ["names", "values", "named"] (consD (atP 5) (consD (bin2 addD (atV 6) (mapS (bin2 repO (mapS (lstDisp (consD (kD (.leaf .non)) nilD))) (atP 3)))) (consD (atP 7) nilD)))))))))
/-- how many words are drawn -/
def FMany : L2.Tr.Env → Option D := (bin2 addD (bin2 addD (bin2 addD (app1 lenA (consD (atP 2) nilD)) (atP 3)) (app1 sumD (consD (atP 2) nilD))) (kD (.leaf (.int 2))))
def gWorld : D → L2.Tr.Env → Option L2.Tr.Env := (tupT 2 (consT (setF 2) (consT (setF 3) nilT)))
abbrev XW (P : Program) (w : World) (K : PySem.W.Frag) (mg : Str → Option Value) (base : Heap) (f : Addr) (cdv : Value) (A : Around) (outer : List PySem.Env) (s : Shared) (H : Hp) (E : XK) : Cx := (cxOf CX0 P w K mg base nWorld "_law_world" (defScope sWorld) f cdv A outer s H E).nox
theorem world_d {f : Addr} (B : TxB mg) {cdv : Value} {A : Around} {outer : List PySem.Env} {s : Shared} {H : Hp} {E : XK} {k : Nat} (hr : Room k (A.deeper (envOfC "_law_world" (defScope sWorld) s.heap.objs.size f cdv))) :
    ∃ t, SsD (XW P w K mg base f cdv A outer s H E) ((defBody sWorld).drop 2) t FWorld := ⟨_, (ss_cons (sd_par_po (PuD.or (OwD.pu (ow_sl (PuD.vi (pu_var (pv 4))) so_none (so_some (pu_add (PuD.vi (pu_cb (CallR.or call_len call_lenD) (R1D.or r1_len r1_lenK) (by rfl) B.z_len (by decide +kernel) (av_cons (PuD.vi (pu_var (pv 2))) av_nil))) (PuD.vi (pu_var (pv 3))))))) (pu_slT (PuD.vi (pu_var (pv 4))) so_none (so_some (pu_add (PuD.vi (pu_cb (CallR.or call_len call_lenD) (R1D.or r1_len r1_lenK) (by rfl) B.z_len (by decide +kernel) (av_cons (PuD.vi (pu_var (pv 2))) av_nil))) (PuD.vi (pu_var (pv 3))))))) (ow_lst ar_nil) (by decide) (fun h => ps_par (i := 5) (j := 6) rfl scWorld.nd rfl rfl (by decide) rfl rfl h (by rfl))) (ss_cons (sd_nm (PuD.or (OwD.pu (ow_sl (PuD.vi (pu_var (pv 4))) (so_some (pu_add (PuD.vi (pu_cb (CallR.or call_len call_lenD) (R1D.or r1_len r1_lenK) (by rfl) B.z_len (by decide +kernel) (av_cons (PuD.vi (pu_var (pv 2))) av_nil))) (PuD.vi (pu_var (pv 3))))) so_none)) (pu_slT (PuD.vi (pu_var (pv 4))) (so_some (pu_add (PuD.vi (pu_cb (CallR.or call_len call_lenD) (R1D.or r1_len r1_lenK) (by rfl) B.z_len (by decide +kernel) (av_cons (PuD.vi (pu_var (pv 2))) av_nil))) (PuD.vi (pu_var (pv 3))))) so_none)) (fun h => ps_set (i := 7) scWorld.nd rfl (by first | exact Or.inl rfl | exact Or.inr rfl) h)) (ss_cons (sd_for PassesOwn.never rfl (it_seq (pu_var (pv 2))) (tg_name (pg_name (i := 8) scWorld.nd rfl (by first | exact Or.inl rfl | exact Or.inr rfl))) (ss_cons (sd_appK (i := 6) (pu_cty call_tuple_of r1_tup (by rfl) B.z_tuple (by decide +kernel) (av_cons (PuD.vi (PuD.or (OwD.pu (ow_sl (PuD.vi (pu_var (pv 7))) so_none (so_some (pu_var (pv 8))))) (pu_slT (PuD.vi (pu_var (pv 7))) so_none (so_some (pu_var (pv 8)))))) av_nil)) (fun h => ps_expr (pe_bm PySem.F.plainAttrs_list PySem.F.slot_list_append PySem.F.type_list_append mt_append (pv 6) (pa_cons h pa_nil)))) (ss_one (sd_nm (PuD.or (OwD.pu (ow_sl (PuD.vi (pu_var (pv 7))) (so_some (pu_var (pv 8))) so_none)) (pu_slT (PuD.vi (pu_var (pv 7))) (so_some (pu_var (pv 8))) so_none)) (fun h => ps_set (i := 7) scWorld.nd rfl (by first | exact Or.inl rfl | exact Or.inr rfl) h))))) (ss_cons (sd_if (TwD.te (tw_and (te_chain (op_eqD (hr.units)) (op_neD (hr.units)) r2_eqD r2_neD (PuD.vi (PuD.or (OwD.pu (ow_sl (PuD.vi (pu_var (pv 2))) so_none (so_some (pu_c pe_int rfl)))) (pu_slT (PuD.vi (pu_var (pv 2))) so_none (so_some (pu_c pe_int rfl))))) (PuD.vi (PuD.or (OwD.pu (ow_sl (PuD.vi (pu_var (pv 2))) (so_some (pu_c pe_int rfl)) (so_some (pu_c pe_int rfl)))) (pu_slT (PuD.vi (pu_var (pv 2))) (so_some (pu_c pe_int rfl)) (so_some (pu_c pe_int rfl))))) (PuD.vi (OwD.pu (ow_lst ar_nil)))) (tw_and1 te_never))) (ss_one sd_never) ss_nil) (ss_one (sd_ret (pu_disp (ks := ["names", "values", "named"]) (ds_cons (x := "names") pe_str (pu_var (pv 5)) (ds_cons (x := "values") pe_str (pu_add (vi_var (pv 6)) (PuD.vi (OwD.pu (ow_rep (PuD.vi (OwD.pu (ow_lst (ar_cons (pu_c pe_non rfl) ar_nil)))) (PuD.vi (pu_var (pv 3))))))) (ds_cons (x := "named") pe_str (pu_var (pv 7)) ds_nil))) (by decide +kernel) (by decide) rfl rfl (fun z => nomatch z) (by decide))))))))⟩
theorem many_d {f : Addr} (B : TxB mg) {cdv : Value} {A : Around} {outer : List PySem.Env} {s : Shared} {H : Hp} {E : XK} {k : Nat} (hr : Room k (A.deeper (envOfC "_law_world" (defScope sWorld) s.heap.objs.size f cdv))) :
    ∃ t, PuD (XW P w K mg base f cdv A outer s H E) (callArg (defBody sWorld) 1 1) t FMany := ⟨_, (pu_add (PuD.vi (pu_add (PuD.vi (pu_add (PuD.vi (pu_cb (CallR.or call_len call_lenD) (R1D.or r1_len r1_lenK) (by rfl) B.z_len (by decide +kernel) (av_cons (PuD.vi (pu_var (pv 2))) av_nil))) (PuD.vi (pu_var (pv 3))))) (PuD.vi (pu_cb (cr_sum rfl) r1_sum (by rfl) B.z_sum (by decide +kernel) (av_cons (PuD.vi (pu_var (pv 2))) av_nil))))) (PuD.vi (pu_c pe_int rfl)))⟩
theorem tgw_d {f : Addr} {cdv : Value} {A : Around} {outer : List PySem.Env} {s : Shared} {H : Hp} {E : XK} :
    ∃ t, TgD (XW P w K mg base f cdv A outer s H E) (asgTg (defBody sWorld) 0) t gWorld := ⟨_, (tg_tup rfl (tgs_cons (tg_name (pg_name (i := 2) scWorld.nd rfl (by first | exact Or.inl rfl | exact Or.inr rfl))) (tgs_cons (tg_name (pg_name (i := 3) scWorld.nd rfl (by first | exact Or.inl rfl | exact Or.inr rfl))) tgs_nil)))⟩
end
/-! what it gives, for each shape -/
def shL : List (List Int × Int) := [([2, 3], 0), ([1], 0), ([3, 1, 2], 0), ([2], 1), ([2], 2), ([3, 2], 1), ([], 1), ([], 2)]
def cntD (ns : List Int) : D := .seq true (ns.map fun i => .leaf (.int i))
def shD : D := .seq true (shL.map fun p => .seq false [cntD p.1, .leaf (.int p.2)])
end L2.K1

namespace L2.K1
open PySem PySem.Spec PyProof.Rows L2.Tr
def wEnv (ns : List Int) (f : Int) (ws : List Str) : L2.Tr.Env := [.un, .un, .pu (cntD ns), .pu (.leaf (.int f)), .pu (.seq true (ws.map sD)), .un, .un, .un, .un]
def wEnv0 (ns : List Int) (f : Int) : L2.Tr.Env := [.un, .un, .pu (cntD ns), .pu (.leaf (.int f)), .un, .un, .un, .un, .un]
theorem vals_sub {ys ws : List Str} (S : ys.Sublist ws) (hn : ws.Nodup) (hg : ∀ x ∈ ws, isW x = true ∧ x ≠ "number") (h1 : 1 ≤ ys.length) (h3 : ys.length ≤ 3) : Vals ys := ⟨h1, h3, fun x hx => (hg x (S.subset hx)).1, hn.sublist S⟩
theorem nm_sub {x : Str} {ws : List Str} (S : [x].Sublist ws) (hg : ∀ x ∈ ws, isW x = true ∧ x ≠ "number") : Nm x := ⟨(hg x (S.subset List.mem_cons_self)).1, (hg x (S.subset List.mem_cons_self)).2⟩
theorem loop_c {θ : D → L2.Tr.Env → Option L2.Tr.Env} {Φ : L2.Tr.Env → Option Out} {d : D} {ds : List D} {ρ ρ1 ρ2 : L2.Tr.Env} {o : Out} (h1 : θ d ρ = some ρ1) (h2 : Φ ρ1 = some (.nx ρ2)) (h3 : loopF θ Φ ds ρ2 = some o) : loopF θ Φ (d :: ds) ρ = some o := by
  unfold loopF
  rw [h1, Option.bind_some, h2]
  exact h3
theorem for_c {ψ : L2.Tr.Env → Option (List D)} {θ : D → L2.Tr.Env → Option L2.Tr.Env} {Φ : L2.Tr.Env → Option Out} {ds : List D} {ρ : L2.Tr.Env} {o : Out} (h : ψ ρ = some ds) (h2 : loopF θ Φ ds ρ = some o) : forF ψ θ Φ ρ = some o := by
  unfold forF
  rw [h]
  exact h2
theorem v0 (a b c d e f g h i : Str) : FWorld (wEnv [2, 3] 0 [a, b, c, d, e, f, g, h, i]) = some (.rt (wD [(a, [c, d]), (b, [e, f, g])] [] [h, i])) := by
  unfold FWorld wEnv
  refine (seq_nx (ρ2 := [.un, .un, .pu (cntD [2, 3]), .pu (.leaf (.int 0)), .pu (.seq true ([a, b, c, d, e, f, g, h, i].map sD)), .pu (.seq true [sD a, sD b]), .ow (.seq true []), .un, .un]) rfl).trans ?_
  refine (seq_nx (ρ2 := [.un, .un, .pu (cntD [2, 3]), .pu (.leaf (.int 0)), .pu (.seq true ([a, b, c, d, e, f, g, h, i].map sD)), .pu (.seq true [sD a, sD b]), .ow (.seq true []), .pu (.seq true [sD c, sD d, sD e, sD f, sD g, sD h, sD i]), .un]) rfl).trans ?_
  refine (seq_nx (ρ2 := [.un, .un, .pu (cntD [2, 3]), .pu (.leaf (.int 0)), .pu (.seq true ([a, b, c, d, e, f, g, h, i].map sD)), .pu (.seq true [sD a, sD b]), .ow (.seq true [.seq false [sD c, sD d], .seq false [sD e, sD f, sD g]]), .pu (.seq true [sD h, sD i]), .pu (.leaf (.int 3))]) (for_c rfl (loop_c (ρ1 := [.un, .un, .pu (cntD [2, 3]), .pu (.leaf (.int 0)), .pu (.seq true ([a, b, c, d, e, f, g, h, i].map sD)), .pu (.seq true [sD a, sD b]), .ow (.seq true []), .pu (.seq true [sD c, sD d, sD e, sD f, sD g, sD h, sD i]), .pu (.leaf (.int 2))]) (ρ2 := [.un, .un, .pu (cntD [2, 3]), .pu (.leaf (.int 0)), .pu (.seq true ([a, b, c, d, e, f, g, h, i].map sD)), .pu (.seq true [sD a, sD b]), .ow (.seq true [.seq false [sD c, sD d]]), .pu (.seq true [sD e, sD f, sD g, sD h, sD i]), .pu (.leaf (.int 2))]) rfl rfl (loop_c (ρ1 := [.un, .un, .pu (cntD [2, 3]), .pu (.leaf (.int 0)), .pu (.seq true ([a, b, c, d, e, f, g, h, i].map sD)), .pu (.seq true [sD a, sD b]), .ow (.seq true [.seq false [sD c, sD d]]), .pu (.seq true [sD e, sD f, sD g, sD h, sD i]), .pu (.leaf (.int 3))]) (ρ2 := [.un, .un, .pu (cntD [2, 3]), .pu (.leaf (.int 0)), .pu (.seq true ([a, b, c, d, e, f, g, h, i].map sD)), .pu (.seq true [sD a, sD b]), .ow (.seq true [.seq false [sD c, sD d], .seq false [sD e, sD f, sD g]]), .pu (.seq true [sD h, sD i]), .pu (.leaf (.int 3))]) rfl rfl rfl)))).trans ?_
  refine (seq_nx (ρ2 := [.un, .un, .pu (cntD [2, 3]), .pu (.leaf (.int 0)), .pu (.seq true ([a, b, c, d, e, f, g, h, i].map sD)), .pu (.seq true [sD a, sD b]), .ow (.seq true [.seq false [sD c, sD d], .seq false [sD e, sD f, sD g]]), .pu (.seq true [sD h, sD i]), .pu (.leaf (.int 3))]) rfl).trans ?_
  rfl
theorem v1 (a b c d : Str) : FWorld (wEnv [1] 0 [a, b, c, d]) = some (.rt (wD [(a, [b])] [] [c, d])) := by
  unfold FWorld wEnv
  refine (seq_nx (ρ2 := [.un, .un, .pu (cntD [1]), .pu (.leaf (.int 0)), .pu (.seq true ([a, b, c, d].map sD)), .pu (.seq true [sD a]), .ow (.seq true []), .un, .un]) rfl).trans ?_
  refine (seq_nx (ρ2 := [.un, .un, .pu (cntD [1]), .pu (.leaf (.int 0)), .pu (.seq true ([a, b, c, d].map sD)), .pu (.seq true [sD a]), .ow (.seq true []), .pu (.seq true [sD b, sD c, sD d]), .un]) rfl).trans ?_
  refine (seq_nx (ρ2 := [.un, .un, .pu (cntD [1]), .pu (.leaf (.int 0)), .pu (.seq true ([a, b, c, d].map sD)), .pu (.seq true [sD a]), .ow (.seq true [.seq false [sD b]]), .pu (.seq true [sD c, sD d]), .pu (.leaf (.int 1))]) (for_c rfl (loop_c (ρ1 := [.un, .un, .pu (cntD [1]), .pu (.leaf (.int 0)), .pu (.seq true ([a, b, c, d].map sD)), .pu (.seq true [sD a]), .ow (.seq true []), .pu (.seq true [sD b, sD c, sD d]), .pu (.leaf (.int 1))]) (ρ2 := [.un, .un, .pu (cntD [1]), .pu (.leaf (.int 0)), .pu (.seq true ([a, b, c, d].map sD)), .pu (.seq true [sD a]), .ow (.seq true [.seq false [sD b]]), .pu (.seq true [sD c, sD d]), .pu (.leaf (.int 1))]) rfl rfl rfl))).trans ?_
  refine (seq_nx (ρ2 := [.un, .un, .pu (cntD [1]), .pu (.leaf (.int 0)), .pu (.seq true ([a, b, c, d].map sD)), .pu (.seq true [sD a]), .ow (.seq true [.seq false [sD b]]), .pu (.seq true [sD c, sD d]), .pu (.leaf (.int 1))]) rfl).trans ?_
  rfl
theorem v2 (a b c d e f g h i j k : Str) : FWorld (wEnv [3, 1, 2] 0 [a, b, c, d, e, f, g, h, i, j, k]) = some (.rt (wD [(a, [d, e, f]), (b, [g]), (c, [h, i])] [] [j, k])) := by
  unfold FWorld wEnv
  refine (seq_nx (ρ2 := [.un, .un, .pu (cntD [3, 1, 2]), .pu (.leaf (.int 0)), .pu (.seq true ([a, b, c, d, e, f, g, h, i, j, k].map sD)), .pu (.seq true [sD a, sD b, sD c]), .ow (.seq true []), .un, .un]) rfl).trans ?_
  refine (seq_nx (ρ2 := [.un, .un, .pu (cntD [3, 1, 2]), .pu (.leaf (.int 0)), .pu (.seq true ([a, b, c, d, e, f, g, h, i, j, k].map sD)), .pu (.seq true [sD a, sD b, sD c]), .ow (.seq true []), .pu (.seq true [sD d, sD e, sD f, sD g, sD h, sD i, sD j, sD k]), .un]) rfl).trans ?_
  refine (seq_nx (ρ2 := [.un, .un, .pu (cntD [3, 1, 2]), .pu (.leaf (.int 0)), .pu (.seq true ([a, b, c, d, e, f, g, h, i, j, k].map sD)), .pu (.seq true [sD a, sD b, sD c]), .ow (.seq true [.seq false [sD d, sD e, sD f], .seq false [sD g], .seq false [sD h, sD i]]), .pu (.seq true [sD j, sD k]), .pu (.leaf (.int 2))]) (for_c rfl (loop_c (ρ1 := [.un, .un, .pu (cntD [3, 1, 2]), .pu (.leaf (.int 0)), .pu (.seq true ([a, b, c, d, e, f, g, h, i, j, k].map sD)), .pu (.seq true [sD a, sD b, sD c]), .ow (.seq true []), .pu (.seq true [sD d, sD e, sD f, sD g, sD h, sD i, sD j, sD k]), .pu (.leaf (.int 3))]) (ρ2 := [.un, .un, .pu (cntD [3, 1, 2]), .pu (.leaf (.int 0)), .pu (.seq true ([a, b, c, d, e, f, g, h, i, j, k].map sD)), .pu (.seq true [sD a, sD b, sD c]), .ow (.seq true [.seq false [sD d, sD e, sD f]]), .pu (.seq true [sD g, sD h, sD i, sD j, sD k]), .pu (.leaf (.int 3))]) rfl rfl (loop_c (ρ1 := [.un, .un, .pu (cntD [3, 1, 2]), .pu (.leaf (.int 0)), .pu (.seq true ([a, b, c, d, e, f, g, h, i, j, k].map sD)), .pu (.seq true [sD a, sD b, sD c]), .ow (.seq true [.seq false [sD d, sD e, sD f]]), .pu (.seq true [sD g, sD h, sD i, sD j, sD k]), .pu (.leaf (.int 1))]) (ρ2 := [.un, .un, .pu (cntD [3, 1, 2]), .pu (.leaf (.int 0)), .pu (.seq true ([a, b, c, d, e, f, g, h, i, j, k].map sD)), .pu (.seq true [sD a, sD b, sD c]), .ow (.seq true [.seq false [sD d, sD e, sD f], .seq false [sD g]]), .pu (.seq true [sD h, sD i, sD j, sD k]), .pu (.leaf (.int 1))]) rfl rfl (loop_c (ρ1 := [.un, .un, .pu (cntD [3, 1, 2]), .pu (.leaf (.int 0)), .pu (.seq true ([a, b, c, d, e, f, g, h, i, j, k].map sD)), .pu (.seq true [sD a, sD b, sD c]), .ow (.seq true [.seq false [sD d, sD e, sD f], .seq false [sD g]]), .pu (.seq true [sD h, sD i, sD j, sD k]), .pu (.leaf (.int 2))]) (ρ2 := [.un, .un, .pu (cntD [3, 1, 2]), .pu (.leaf (.int 0)), .pu (.seq true ([a, b, c, d, e, f, g, h, i, j, k].map sD)), .pu (.seq true [sD a, sD b, sD c]), .ow (.seq true [.seq false [sD d, sD e, sD f], .seq false [sD g], .seq false [sD h, sD i]]), .pu (.seq true [sD j, sD k]), .pu (.leaf (.int 2))]) rfl rfl rfl))))).trans ?_
  refine (seq_nx (ρ2 := [.un, .un, .pu (cntD [3, 1, 2]), .pu (.leaf (.int 0)), .pu (.seq true ([a, b, c, d, e, f, g, h, i, j, k].map sD)), .pu (.seq true [sD a, sD b, sD c]), .ow (.seq true [.seq false [sD d, sD e, sD f], .seq false [sD g], .seq false [sD h, sD i]]), .pu (.seq true [sD j, sD k]), .pu (.leaf (.int 2))]) rfl).trans ?_
  rfl
theorem v3 (a b c d e f : Str) : FWorld (wEnv [2] 1 [a, b, c, d, e, f]) = some (.rt (wD [(a, [c, d])] [b] [e, f])) := by
  unfold FWorld wEnv
  refine (seq_nx (ρ2 := [.un, .un, .pu (cntD [2]), .pu (.leaf (.int 1)), .pu (.seq true ([a, b, c, d, e, f].map sD)), .pu (.seq true [sD a, sD b]), .ow (.seq true []), .un, .un]) rfl).trans ?_
  refine (seq_nx (ρ2 := [.un, .un, .pu (cntD [2]), .pu (.leaf (.int 1)), .pu (.seq true ([a, b, c, d, e, f].map sD)), .pu (.seq true [sD a, sD b]), .ow (.seq true []), .pu (.seq true [sD c, sD d, sD e, sD f]), .un]) rfl).trans ?_
  refine (seq_nx (ρ2 := [.un, .un, .pu (cntD [2]), .pu (.leaf (.int 1)), .pu (.seq true ([a, b, c, d, e, f].map sD)), .pu (.seq true [sD a, sD b]), .ow (.seq true [.seq false [sD c, sD d]]), .pu (.seq true [sD e, sD f]), .pu (.leaf (.int 2))]) (for_c rfl (loop_c (ρ1 := [.un, .un, .pu (cntD [2]), .pu (.leaf (.int 1)), .pu (.seq true ([a, b, c, d, e, f].map sD)), .pu (.seq true [sD a, sD b]), .ow (.seq true []), .pu (.seq true [sD c, sD d, sD e, sD f]), .pu (.leaf (.int 2))]) (ρ2 := [.un, .un, .pu (cntD [2]), .pu (.leaf (.int 1)), .pu (.seq true ([a, b, c, d, e, f].map sD)), .pu (.seq true [sD a, sD b]), .ow (.seq true [.seq false [sD c, sD d]]), .pu (.seq true [sD e, sD f]), .pu (.leaf (.int 2))]) rfl rfl rfl))).trans ?_
  refine (seq_nx (ρ2 := [.un, .un, .pu (cntD [2]), .pu (.leaf (.int 1)), .pu (.seq true ([a, b, c, d, e, f].map sD)), .pu (.seq true [sD a, sD b]), .ow (.seq true [.seq false [sD c, sD d]]), .pu (.seq true [sD e, sD f]), .pu (.leaf (.int 2))]) rfl).trans ?_
  rfl
theorem v4 (a b c d e f g : Str) : FWorld (wEnv [2] 2 [a, b, c, d, e, f, g]) = some (.rt (wD [(a, [d, e])] [b, c] [f, g])) := by
  unfold FWorld wEnv
  refine (seq_nx (ρ2 := [.un, .un, .pu (cntD [2]), .pu (.leaf (.int 2)), .pu (.seq true ([a, b, c, d, e, f, g].map sD)), .pu (.seq true [sD a, sD b, sD c]), .ow (.seq true []), .un, .un]) rfl).trans ?_
  refine (seq_nx (ρ2 := [.un, .un, .pu (cntD [2]), .pu (.leaf (.int 2)), .pu (.seq true ([a, b, c, d, e, f, g].map sD)), .pu (.seq true [sD a, sD b, sD c]), .ow (.seq true []), .pu (.seq true [sD d, sD e, sD f, sD g]), .un]) rfl).trans ?_
  refine (seq_nx (ρ2 := [.un, .un, .pu (cntD [2]), .pu (.leaf (.int 2)), .pu (.seq true ([a, b, c, d, e, f, g].map sD)), .pu (.seq true [sD a, sD b, sD c]), .ow (.seq true [.seq false [sD d, sD e]]), .pu (.seq true [sD f, sD g]), .pu (.leaf (.int 2))]) (for_c rfl (loop_c (ρ1 := [.un, .un, .pu (cntD [2]), .pu (.leaf (.int 2)), .pu (.seq true ([a, b, c, d, e, f, g].map sD)), .pu (.seq true [sD a, sD b, sD c]), .ow (.seq true []), .pu (.seq true [sD d, sD e, sD f, sD g]), .pu (.leaf (.int 2))]) (ρ2 := [.un, .un, .pu (cntD [2]), .pu (.leaf (.int 2)), .pu (.seq true ([a, b, c, d, e, f, g].map sD)), .pu (.seq true [sD a, sD b, sD c]), .ow (.seq true [.seq false [sD d, sD e]]), .pu (.seq true [sD f, sD g]), .pu (.leaf (.int 2))]) rfl rfl rfl))).trans ?_
  refine (seq_nx (ρ2 := [.un, .un, .pu (cntD [2]), .pu (.leaf (.int 2)), .pu (.seq true ([a, b, c, d, e, f, g].map sD)), .pu (.seq true [sD a, sD b, sD c]), .ow (.seq true [.seq false [sD d, sD e]]), .pu (.seq true [sD f, sD g]), .pu (.leaf (.int 2))]) rfl).trans ?_
  rfl
theorem v5 (a b c d e f g h i j : Str) : FWorld (wEnv [3, 2] 1 [a, b, c, d, e, f, g, h, i, j]) = some (.rt (wD [(a, [d, e, f]), (b, [g, h])] [c] [i, j])) := by
  unfold FWorld wEnv
  refine (seq_nx (ρ2 := [.un, .un, .pu (cntD [3, 2]), .pu (.leaf (.int 1)), .pu (.seq true ([a, b, c, d, e, f, g, h, i, j].map sD)), .pu (.seq true [sD a, sD b, sD c]), .ow (.seq true []), .un, .un]) rfl).trans ?_
  refine (seq_nx (ρ2 := [.un, .un, .pu (cntD [3, 2]), .pu (.leaf (.int 1)), .pu (.seq true ([a, b, c, d, e, f, g, h, i, j].map sD)), .pu (.seq true [sD a, sD b, sD c]), .ow (.seq true []), .pu (.seq true [sD d, sD e, sD f, sD g, sD h, sD i, sD j]), .un]) rfl).trans ?_
  refine (seq_nx (ρ2 := [.un, .un, .pu (cntD [3, 2]), .pu (.leaf (.int 1)), .pu (.seq true ([a, b, c, d, e, f, g, h, i, j].map sD)), .pu (.seq true [sD a, sD b, sD c]), .ow (.seq true [.seq false [sD d, sD e, sD f], .seq false [sD g, sD h]]), .pu (.seq true [sD i, sD j]), .pu (.leaf (.int 2))]) (for_c rfl (loop_c (ρ1 := [.un, .un, .pu (cntD [3, 2]), .pu (.leaf (.int 1)), .pu (.seq true ([a, b, c, d, e, f, g, h, i, j].map sD)), .pu (.seq true [sD a, sD b, sD c]), .ow (.seq true []), .pu (.seq true [sD d, sD e, sD f, sD g, sD h, sD i, sD j]), .pu (.leaf (.int 3))]) (ρ2 := [.un, .un, .pu (cntD [3, 2]), .pu (.leaf (.int 1)), .pu (.seq true ([a, b, c, d, e, f, g, h, i, j].map sD)), .pu (.seq true [sD a, sD b, sD c]), .ow (.seq true [.seq false [sD d, sD e, sD f]]), .pu (.seq true [sD g, sD h, sD i, sD j]), .pu (.leaf (.int 3))]) rfl rfl (loop_c (ρ1 := [.un, .un, .pu (cntD [3, 2]), .pu (.leaf (.int 1)), .pu (.seq true ([a, b, c, d, e, f, g, h, i, j].map sD)), .pu (.seq true [sD a, sD b, sD c]), .ow (.seq true [.seq false [sD d, sD e, sD f]]), .pu (.seq true [sD g, sD h, sD i, sD j]), .pu (.leaf (.int 2))]) (ρ2 := [.un, .un, .pu (cntD [3, 2]), .pu (.leaf (.int 1)), .pu (.seq true ([a, b, c, d, e, f, g, h, i, j].map sD)), .pu (.seq true [sD a, sD b, sD c]), .ow (.seq true [.seq false [sD d, sD e, sD f], .seq false [sD g, sD h]]), .pu (.seq true [sD i, sD j]), .pu (.leaf (.int 2))]) rfl rfl rfl)))).trans ?_
  refine (seq_nx (ρ2 := [.un, .un, .pu (cntD [3, 2]), .pu (.leaf (.int 1)), .pu (.seq true ([a, b, c, d, e, f, g, h, i, j].map sD)), .pu (.seq true [sD a, sD b, sD c]), .ow (.seq true [.seq false [sD d, sD e, sD f], .seq false [sD g, sD h]]), .pu (.seq true [sD i, sD j]), .pu (.leaf (.int 2))]) rfl).trans ?_
  rfl
theorem v6 (a b c : Str) : FWorld (wEnv [] 1 [a, b, c]) = some (.rt (wD [] [a] [b, c])) := by
  unfold FWorld wEnv
  refine (seq_nx (ρ2 := [.un, .un, .pu (cntD []), .pu (.leaf (.int 1)), .pu (.seq true ([a, b, c].map sD)), .pu (.seq true [sD a]), .ow (.seq true []), .un, .un]) rfl).trans ?_
  refine (seq_nx (ρ2 := [.un, .un, .pu (cntD []), .pu (.leaf (.int 1)), .pu (.seq true ([a, b, c].map sD)), .pu (.seq true [sD a]), .ow (.seq true []), .pu (.seq true [sD b, sD c]), .un]) rfl).trans ?_
  refine (seq_nx (ρ2 := [.un, .un, .pu (cntD []), .pu (.leaf (.int 1)), .pu (.seq true ([a, b, c].map sD)), .pu (.seq true [sD a]), .ow (.seq true []), .pu (.seq true [sD b, sD c]), .un]) (for_c rfl rfl)).trans ?_
  refine (seq_nx (ρ2 := [.un, .un, .pu (cntD []), .pu (.leaf (.int 1)), .pu (.seq true ([a, b, c].map sD)), .pu (.seq true [sD a]), .ow (.seq true []), .pu (.seq true [sD b, sD c]), .un]) rfl).trans ?_
  rfl
theorem v7 (a b c d : Str) : FWorld (wEnv [] 2 [a, b, c, d]) = some (.rt (wD [] [a, b] [c, d])) := by
  unfold FWorld wEnv
  refine (seq_nx (ρ2 := [.un, .un, .pu (cntD []), .pu (.leaf (.int 2)), .pu (.seq true ([a, b, c, d].map sD)), .pu (.seq true [sD a, sD b]), .ow (.seq true []), .un, .un]) rfl).trans ?_
  refine (seq_nx (ρ2 := [.un, .un, .pu (cntD []), .pu (.leaf (.int 2)), .pu (.seq true ([a, b, c, d].map sD)), .pu (.seq true [sD a, sD b]), .ow (.seq true []), .pu (.seq true [sD c, sD d]), .un]) rfl).trans ?_
  refine (seq_nx (ρ2 := [.un, .un, .pu (cntD []), .pu (.leaf (.int 2)), .pu (.seq true ([a, b, c, d].map sD)), .pu (.seq true [sD a, sD b]), .ow (.seq true []), .pu (.seq true [sD c, sD d]), .un]) (for_c rfl rfl)).trans ?_
  refine (seq_nx (ρ2 := [.un, .un, .pu (cntD []), .pu (.leaf (.int 2)), .pu (.seq true ([a, b, c, d].map sD)), .pu (.seq true [sD a, sD b]), .ow (.seq true []), .pu (.seq true [sD c, sD d]), .un]) rfl).trans ?_
  rfl
theorem world_vals {ns : List Int} {f : Int} (h : (ns, f) ∈ shL) : ∃ m : Nat, m ≤ 11 ∧ FMany (wEnv0 ns f) = some (.leaf (.int m)) ∧ ∀ ws : List Str, ws.length = m → ws.Nodup → (∀ x ∈ ws, isW x = true ∧ x ≠ "number") →
    ∃ ps xs named, Cols ps xs ∧ named.length = 2 ∧ (∀ x ∈ named, isW x = true) ∧ FWorld (wEnv ns f ws) = some (.rt (wD ps xs named)) := by
  simp only [shL, List.mem_cons, Prod.mk.injEq, List.not_mem_nil, or_false] at h
  rcases h with ⟨rfl, rfl⟩ | ⟨rfl, rfl⟩ | ⟨rfl, rfl⟩ | ⟨rfl, rfl⟩ | ⟨rfl, rfl⟩ | ⟨rfl, rfl⟩ | ⟨rfl, rfl⟩ | ⟨rfl, rfl⟩
  · refine ⟨9, by decide, rfl, fun ws hl hn hg => ?_⟩
    match ws, hl with
    | [a, b, c, d, e, f, g, h, i], _ =>
      refine ⟨[(a, [c, d]), (b, [e, f, g])], [], [h, i], ⟨fun p hp => ?_, fun x hx => ?_, hn.sublist (show ([a, b] : List Str).Sublist _ from (.cons₂ a (.cons₂ b (.cons c (.cons d (.cons e (.cons f (.cons g (.cons h (.cons i .slnil)))))))))), by show 2 ≤ 3; decide, by show 0 ≤ 2; decide, by show 1 ≤ 2; decide⟩, rfl, fun x hx => (hg x ((show ([h, i] : List Str).Sublist _ from (.cons a (.cons b (.cons c (.cons d (.cons e (.cons f (.cons g (.cons₂ h (.cons₂ i .slnil)))))))))).subset hx)).1, v0 a b c d e f g h i⟩
      · rcases List.mem_cons.mp hp with rfl | hp
        · exact ⟨nm_sub (x := a) (.cons₂ a (.cons b (.cons c (.cons d (.cons e (.cons f (.cons g (.cons h (.cons i .slnil))))))))) hg, vals_sub (ys := [c, d]) (.cons a (.cons b (.cons₂ c (.cons₂ d (.cons e (.cons f (.cons g (.cons h (.cons i .slnil))))))))) hn hg (by show 1 ≤ 2; decide) (by show 2 ≤ 3; decide)⟩
        rcases List.mem_cons.mp hp with rfl | hp
        · exact ⟨nm_sub (x := b) (.cons a (.cons₂ b (.cons c (.cons d (.cons e (.cons f (.cons g (.cons h (.cons i .slnil))))))))) hg, vals_sub (ys := [e, f, g]) (.cons a (.cons b (.cons c (.cons d (.cons₂ e (.cons₂ f (.cons₂ g (.cons h (.cons i .slnil))))))))) hn hg (by show 1 ≤ 3; decide) (by show 3 ≤ 3; decide)⟩
        exact (List.not_mem_nil hp).elim
      · have := (show ([] : List Str).Sublist [a, b, c, d, e, f, g, h, i] from (.cons a (.cons b (.cons c (.cons d (.cons e (.cons f (.cons g (.cons h (.cons i .slnil)))))))))).subset hx
        exact ⟨(hg x this).1, (hg x this).2⟩
  · refine ⟨4, by decide, rfl, fun ws hl hn hg => ?_⟩
    match ws, hl with
    | [a, b, c, d], _ =>
      refine ⟨[(a, [b])], [], [c, d], ⟨fun p hp => ?_, fun x hx => ?_, hn.sublist (show ([a] : List Str).Sublist _ from (.cons₂ a (.cons b (.cons c (.cons d .slnil))))), by show 1 ≤ 3; decide, by show 0 ≤ 2; decide, by show 1 ≤ 1; decide⟩, rfl, fun x hx => (hg x ((show ([c, d] : List Str).Sublist _ from (.cons a (.cons b (.cons₂ c (.cons₂ d .slnil))))).subset hx)).1, v1 a b c d⟩
      · rcases List.mem_cons.mp hp with rfl | hp
        · exact ⟨nm_sub (x := a) (.cons₂ a (.cons b (.cons c (.cons d .slnil)))) hg, vals_sub (ys := [b]) (.cons a (.cons₂ b (.cons c (.cons d .slnil)))) hn hg (by show 1 ≤ 1; decide) (by show 1 ≤ 3; decide)⟩
        exact (List.not_mem_nil hp).elim
      · have := (show ([] : List Str).Sublist [a, b, c, d] from (.cons a (.cons b (.cons c (.cons d .slnil))))).subset hx
        exact ⟨(hg x this).1, (hg x this).2⟩
  · refine ⟨11, by decide, rfl, fun ws hl hn hg => ?_⟩
    match ws, hl with
    | [a, b, c, d, e, f, g, h, i, j, k], _ =>
      refine ⟨[(a, [d, e, f]), (b, [g]), (c, [h, i])], [], [j, k], ⟨fun p hp => ?_, fun x hx => ?_, hn.sublist (show ([a, b, c] : List Str).Sublist _ from (.cons₂ a (.cons₂ b (.cons₂ c (.cons d (.cons e (.cons f (.cons g (.cons h (.cons i (.cons j (.cons k .slnil)))))))))))), by show 3 ≤ 3; decide, by show 0 ≤ 2; decide, by show 1 ≤ 3; decide⟩, rfl, fun x hx => (hg x ((show ([j, k] : List Str).Sublist _ from (.cons a (.cons b (.cons c (.cons d (.cons e (.cons f (.cons g (.cons h (.cons i (.cons₂ j (.cons₂ k .slnil)))))))))))).subset hx)).1, v2 a b c d e f g h i j k⟩
      · rcases List.mem_cons.mp hp with rfl | hp
        · exact ⟨nm_sub (x := a) (.cons₂ a (.cons b (.cons c (.cons d (.cons e (.cons f (.cons g (.cons h (.cons i (.cons j (.cons k .slnil))))))))))) hg, vals_sub (ys := [d, e, f]) (.cons a (.cons b (.cons c (.cons₂ d (.cons₂ e (.cons₂ f (.cons g (.cons h (.cons i (.cons j (.cons k .slnil))))))))))) hn hg (by show 1 ≤ 3; decide) (by show 3 ≤ 3; decide)⟩
        rcases List.mem_cons.mp hp with rfl | hp
        · exact ⟨nm_sub (x := b) (.cons a (.cons₂ b (.cons c (.cons d (.cons e (.cons f (.cons g (.cons h (.cons i (.cons j (.cons k .slnil))))))))))) hg, vals_sub (ys := [g]) (.cons a (.cons b (.cons c (.cons d (.cons e (.cons f (.cons₂ g (.cons h (.cons i (.cons j (.cons k .slnil))))))))))) hn hg (by show 1 ≤ 1; decide) (by show 1 ≤ 3; decide)⟩
        rcases List.mem_cons.mp hp with rfl | hp
        · exact ⟨nm_sub (x := c) (.cons a (.cons b (.cons₂ c (.cons d (.cons e (.cons f (.cons g (.cons h (.cons i (.cons j (.cons k .slnil))))))))))) hg, vals_sub (ys := [h, i]) (.cons a (.cons b (.cons c (.cons d (.cons e (.cons f (.cons g (.cons₂ h (.cons₂ i (.cons j (.cons k .slnil))))))))))) hn hg (by show 1 ≤ 2; decide) (by show 2 ≤ 3; decide)⟩
        exact (List.not_mem_nil hp).elim
      · have := (show ([] : List Str).Sublist [a, b, c, d, e, f, g, h, i, j, k] from (.cons a (.cons b (.cons c (.cons d (.cons e (.cons f (.cons g (.cons h (.cons i (.cons j (.cons k .slnil)))))))))))).subset hx
        exact ⟨(hg x this).1, (hg x this).2⟩
  · refine ⟨6, by decide, rfl, fun ws hl hn hg => ?_⟩
    match ws, hl with
    | [a, b, c, d, e, f], _ =>
      refine ⟨[(a, [c, d])], [b], [e, f], ⟨fun p hp => ?_, fun x hx => ?_, hn.sublist (show ([a, b] : List Str).Sublist _ from (.cons₂ a (.cons₂ b (.cons c (.cons d (.cons e (.cons f .slnil))))))), by show 2 ≤ 3; decide, by show 1 ≤ 2; decide, by show 1 ≤ 2; decide⟩, rfl, fun x hx => (hg x ((show ([e, f] : List Str).Sublist _ from (.cons a (.cons b (.cons c (.cons d (.cons₂ e (.cons₂ f .slnil))))))).subset hx)).1, v3 a b c d e f⟩
      · rcases List.mem_cons.mp hp with rfl | hp
        · exact ⟨nm_sub (x := a) (.cons₂ a (.cons b (.cons c (.cons d (.cons e (.cons f .slnil)))))) hg, vals_sub (ys := [c, d]) (.cons a (.cons b (.cons₂ c (.cons₂ d (.cons e (.cons f .slnil)))))) hn hg (by show 1 ≤ 2; decide) (by show 2 ≤ 3; decide)⟩
        exact (List.not_mem_nil hp).elim
      · have := (show ([b] : List Str).Sublist [a, b, c, d, e, f] from (.cons a (.cons₂ b (.cons c (.cons d (.cons e (.cons f .slnil))))))).subset hx
        exact ⟨(hg x this).1, (hg x this).2⟩
  · refine ⟨7, by decide, rfl, fun ws hl hn hg => ?_⟩
    match ws, hl with
    | [a, b, c, d, e, f, g], _ =>
      refine ⟨[(a, [d, e])], [b, c], [f, g], ⟨fun p hp => ?_, fun x hx => ?_, hn.sublist (show ([a, b, c] : List Str).Sublist _ from (.cons₂ a (.cons₂ b (.cons₂ c (.cons d (.cons e (.cons f (.cons g .slnil)))))))), by show 3 ≤ 3; decide, by show 2 ≤ 2; decide, by show 1 ≤ 3; decide⟩, rfl, fun x hx => (hg x ((show ([f, g] : List Str).Sublist _ from (.cons a (.cons b (.cons c (.cons d (.cons e (.cons₂ f (.cons₂ g .slnil)))))))).subset hx)).1, v4 a b c d e f g⟩
      · rcases List.mem_cons.mp hp with rfl | hp
        · exact ⟨nm_sub (x := a) (.cons₂ a (.cons b (.cons c (.cons d (.cons e (.cons f (.cons g .slnil))))))) hg, vals_sub (ys := [d, e]) (.cons a (.cons b (.cons c (.cons₂ d (.cons₂ e (.cons f (.cons g .slnil))))))) hn hg (by show 1 ≤ 2; decide) (by show 2 ≤ 3; decide)⟩
        exact (List.not_mem_nil hp).elim
      · have := (show ([b, c] : List Str).Sublist [a, b, c, d, e, f, g] from (.cons a (.cons₂ b (.cons₂ c (.cons d (.cons e (.cons f (.cons g .slnil)))))))).subset hx
        exact ⟨(hg x this).1, (hg x this).2⟩
  · refine ⟨10, by decide, rfl, fun ws hl hn hg => ?_⟩
    match ws, hl with
    | [a, b, c, d, e, f, g, h, i, j], _ =>
      refine ⟨[(a, [d, e, f]), (b, [g, h])], [c], [i, j], ⟨fun p hp => ?_, fun x hx => ?_, hn.sublist (show ([a, b, c] : List Str).Sublist _ from (.cons₂ a (.cons₂ b (.cons₂ c (.cons d (.cons e (.cons f (.cons g (.cons h (.cons i (.cons j .slnil))))))))))), by show 3 ≤ 3; decide, by show 1 ≤ 2; decide, by show 1 ≤ 3; decide⟩, rfl, fun x hx => (hg x ((show ([i, j] : List Str).Sublist _ from (.cons a (.cons b (.cons c (.cons d (.cons e (.cons f (.cons g (.cons h (.cons₂ i (.cons₂ j .slnil))))))))))).subset hx)).1, v5 a b c d e f g h i j⟩
      · rcases List.mem_cons.mp hp with rfl | hp
        · exact ⟨nm_sub (x := a) (.cons₂ a (.cons b (.cons c (.cons d (.cons e (.cons f (.cons g (.cons h (.cons i (.cons j .slnil)))))))))) hg, vals_sub (ys := [d, e, f]) (.cons a (.cons b (.cons c (.cons₂ d (.cons₂ e (.cons₂ f (.cons g (.cons h (.cons i (.cons j .slnil)))))))))) hn hg (by show 1 ≤ 3; decide) (by show 3 ≤ 3; decide)⟩
        rcases List.mem_cons.mp hp with rfl | hp
        · exact ⟨nm_sub (x := b) (.cons a (.cons₂ b (.cons c (.cons d (.cons e (.cons f (.cons g (.cons h (.cons i (.cons j .slnil)))))))))) hg, vals_sub (ys := [g, h]) (.cons a (.cons b (.cons c (.cons d (.cons e (.cons f (.cons₂ g (.cons₂ h (.cons i (.cons j .slnil)))))))))) hn hg (by show 1 ≤ 2; decide) (by show 2 ≤ 3; decide)⟩
        exact (List.not_mem_nil hp).elim
      · have := (show ([c] : List Str).Sublist [a, b, c, d, e, f, g, h, i, j] from (.cons a (.cons b (.cons₂ c (.cons d (.cons e (.cons f (.cons g (.cons h (.cons i (.cons j .slnil))))))))))).subset hx
        exact ⟨(hg x this).1, (hg x this).2⟩
  · refine ⟨3, by decide, rfl, fun ws hl hn hg => ?_⟩
    match ws, hl with
    | [a, b, c], _ =>
      refine ⟨[], [a], [b, c], ⟨fun p hp => ?_, fun x hx => ?_, hn.sublist (show ([a] : List Str).Sublist _ from (.cons₂ a (.cons b (.cons c .slnil)))), by show 1 ≤ 3; decide, by show 1 ≤ 2; decide, by show 1 ≤ 1; decide⟩, rfl, fun x hx => (hg x ((show ([b, c] : List Str).Sublist _ from (.cons a (.cons₂ b (.cons₂ c .slnil)))).subset hx)).1, v6 a b c⟩
      · exact (List.not_mem_nil hp).elim
      · have := (show ([a] : List Str).Sublist [a, b, c] from (.cons₂ a (.cons b (.cons c .slnil)))).subset hx
        exact ⟨(hg x this).1, (hg x this).2⟩
  · refine ⟨4, by decide, rfl, fun ws hl hn hg => ?_⟩
    match ws, hl with
    | [a, b, c, d], _ =>
      refine ⟨[], [a, b], [c, d], ⟨fun p hp => ?_, fun x hx => ?_, hn.sublist (show ([a, b] : List Str).Sublist _ from (.cons₂ a (.cons₂ b (.cons c (.cons d .slnil))))), by show 2 ≤ 3; decide, by show 2 ≤ 2; decide, by show 1 ≤ 2; decide⟩, rfl, fun x hx => (hg x ((show ([c, d] : List Str).Sublist _ from (.cons a (.cons b (.cons₂ c (.cons₂ d .slnil))))).subset hx)).1, v7 a b c d⟩
      · exact (List.not_mem_nil hp).elim
      · have := (show ([a, b] : List Str).Sublist [a, b, c, d] from (.cons₂ a (.cons₂ b (.cons c (.cons d .slnil))))).subset hx
        exact ⟨(hg x this).1, (hg x this).2⟩
end L2.K1

namespace L2.K1
open PySem PySem.Spec PyProof.Rows L2.Tr
/-- all but the stream -/
def off (a b : Addr) (H : Hp) : Hp := fun c => if c = a ∨ c = b then none else H c
theorem off_in {a b c : Addr} {H : Hp} (ha : c ≠ a) (hb : c ≠ b) : off a b H c = H c := if_neg fun z => z.elim ha hb
theorem off_a {a b : Addr} {H : Hp} : off a b H a = none := if_pos (.inl rfl)
theorem off_b {a b : Addr} {H : Hp} : off a b H b = none := if_pos (.inr rfl)
theorem off_un {a b c : Addr} {H : Hp} {o : HO} (h : off a b H c = some o) : c ≠ a ∧ c ≠ b ∧ H c = some o := by
  unfold off at h
  split at h
  · cases h
  · rename_i n
    exact ⟨fun z => n (.inl z), fun z => n (.inr z), h⟩
theorem off_ex {a b : Addr} {H : Hp} : Ex (off a b H) H := fun c o h => (off_un h).2.2
theorem off_kp {a b : Addr} {H H' : Hp} (k : Kp (two a b) H H') : Ex (off a b H) (off a b H') := fun c o h => by
  obtain ⟨h1, h2, h3⟩ := off_un h
  rw [off_in h1 h2]
  exact k c o h3 fun z => z.elim h1 h2
theorem off_of {a b : Addr} {G H : Hp} (x : Ex G H) (ha : G a = none) (hb : G b = none) : Ex G (off a b H) := fun c o h => by
  rw [off_in (fun z => by rw [z, ha] at h; cases h) (fun z => by rw [z, hb] at h; cases h)]
  exact x c o h
/-- a world -/
def spWorld : Sp := fun vs H Q _ => ∃ (a b : Addr) (n : Nat) (v : V), vs = [.ref a, v] ∧ StO H a b n ∧ n + 200 ≤ 1000000 ∧ Rep (off a b H) shD v ∧
  ∀ (ps : List (Str × List Str)) (xs named : List Str) (w : V) (H' : Hp), Cols ps xs → named.length = 2 → (∀ x ∈ named, isW x = true) → StO H' a b (n + 200) → Kp (two a b) H H' → Rep (off a b H') (wD ps xs named) w → Q w H'
theorem un_env {G H : Hp} {σ : L2.St} (x : Ex G H) {n : Nat} (hl : σ.length = n) : EnvOk G H σ (List.replicate n Sl.un) := by
  have none_ : ∀ (i : Nat) (s : Sl), (List.replicate n Sl.un)[i]? = some s → s = .un := fun i s h => by
    rw [List.getElem?_replicate] at h
    split at h
    · cases h; rfl
    · cases h
  exact ⟨x, by rw [hl, List.length_replicate], fun i d h => (by cases none_ i _ h), fun i d h => (by cases none_ i _ h), fun i j d e p h => (by cases none_ i _ h)⟩
theorem no_own {σ : L2.St} {ρ : L2.Tr.Env} (h : ∀ (i : Nat) (d : D), ρ[i]? = some (.ow d) → False) (a : Addr) : ¬ Own σ ρ a := fun ⟨i, d, h1, _⟩ => h i d h1
section
variable {P : Program} {w : World} {K : PySem.W.Frag} {mg : Str → Option Value} {base : Heap}
theorem ok_world {f fpk fws : Addr} {fd dpk dws : FuncData} (F : Fun K "_law_world" "_law_world" sWorld f fd) (B : TxB mg) (m_pk : mg "_law_pick" = some (.ref fpk)) (k_pk : PySem.W.keepIn K (.ref fpk) = true) (GP : FnOk P w K mg base CX0 2 fpk dpk ["_law_stream", "_law_some"] spPick) (bP : Binds K dpk ["_law_stream", "_law_some"] [])
    (m_ws : mg "_law_words" = some (.ref fws)) (k_ws : PySem.W.keepIn K (.ref fws) = true) (GW : FnOk P w K mg base CX0 4 fws dws ["_law_stream", "_law_many"] spWords) (bW : Binds K dws ["_law_stream", "_law_many"] []) :
    FnOk P w K mg base CX0 5 f fd ["_law_stream", "_law_shapes"] spWorld := by
  refine F.ok scWorld (fun vs H Q E h => ?_) (fun cdv A outer s H vs Q E hr h => ?_)
  · obtain ⟨a, b, n, v, rfl, _⟩ := h
    rfl
  · obtain ⟨a, b, n, v, rfl, S, hn, rv, k⟩ := h
    obtain ⟨tS, DS⟩ := world_d (P := P) (w := w) (K := K) (mg := mg) (base := base) (f := f) (cdv := cdv) (A := A) (outer := outer) (s := s) (H := H) (E := E) B hr
    obtain ⟨tM, DM⟩ := many_d (P := P) (w := w) (K := K) (mg := mg) (base := base) (f := f) (cdv := cdv) (A := A) (outer := outer) (s := s) (H := H) (E := E) B hr
    refine ⟨_, (pss_cons (ps_asg (pe_call GP (hr.mono (by decide)) rfl m_pk k_pk bP .nil pass0 (pa_cons (pv 0) (pa_cons (pv 1) pa_nil))) (tg_tup rfl (tgs_cons (tg_name (pg_name (i := 2) scWorld.nd rfl (by first | exact Or.inl rfl | exact Or.inr rfl))) (tgs_cons (tg_name (pg_name (i := 3) scWorld.nd rfl (by first | exact Or.inl rfl | exact Or.inr rfl))) tgs_nil))).pg)
      (pss_cons (ps_set (i := 4) scWorld.nd rfl (by first | exact Or.inl rfl | exact Or.inr rfl) (pe_call GW (hr.mono (by decide)) rfl m_ws k_ws bW .nil pass0 (pa_cons (pv 0) (pa_cons DM.pe pa_nil))))
      DS.ps)), ?_⟩
    obtain ⟨l, us, rfl, hl, _, ru⟩ := rv.un_sq
    obtain ⟨la, lb, hl⟩ := off_un hl
    have ul : us.length = 8 := ru.len
    refine ⟨_, rfl, _, rfl, a, b, l, us, n, rfl, S, by omega, hl, la, lb, by omega, by omega, fun v H1 hv S1 k1 => ?_⟩
    obtain ⟨i, hi, rfl⟩ := List.mem_iff_getElem.mp hv
    obtain ⟨d, hd, rd⟩ := ru.getV (List.getElem?_eq_getElem hi)
    obtain ⟨⟨ns, fr⟩, hsh, rfl⟩ := List.mem_map.mp (List.mem_of_getElem? hd)
    obtain ⟨A1, cs, e1, hA, _, rc⟩ := (rd.mono (off_kp k1)).un_sq
    obtain ⟨c, cs, rfl, r1, rc⟩ := rc.un
    obtain ⟨fv, cs, rfl, r2, rc⟩ := rc.un
    obtain rfl := rc.un0
    obtain ⟨rfl, _⟩ := r2.un_lf
    obtain ⟨m, hm, eM, key⟩ := world_vals hsh
    rw [e1]
    refine ⟨A1, [c, .int fr], rfl, SqT.of (off_ex _ _ hA), rfl, c, [.int fr], rfl, .int fr, [], rfl, rfl, ?_⟩
    refine ⟨_, rfl, ?_⟩
    have x1 : EnvOk (off a b H1) H1 [some (.ref a), some (.ref l), some c, some (.int fr), none, none, none, none, none] (wEnv0 ns fr) :=
      ((un_env off_ex (n := 9) rfl).setP (σ := [some (.ref a), some (.ref l), none, none, none, none, none, none, none]) r1 2).setP (d := .leaf (.int fr)) (.lf rfl) 3
    refine DM.ev _ _ eM _ _ _ x1 _ fun v2 G2 H2 f2 q2 => ?_
    obtain ⟨rfl, _⟩ := q2.un_lf
    have S2 := S1.kp f2.h
    refine ⟨a, b, m, n + 1, rfl, S2, by omega, by omega, fun ws p H3 hwl hnd hg hp0 hp S3 k3 => ?_⟩
    obtain ⟨ps, xs, named, hc, hnl, hnw, eW⟩ := key ws hwl hnd hg
    obtain ⟨pa, pb⟩ := S2.ne hp0
    have k13 : Kp (two a b) H1 H3 := (Kp.of f2.h).trans k3
    have x3 : EnvOk (off a b H3) H3 [some (.ref a), some (.ref l), some c, some (.int fr), some (.ref p), none, none, none, none] (wEnv ns fr ws) := by
      refine (((un_env off_ex (n := 9) rfl).setP (σ := [some (.ref a), some (.ref l), none, none, none, none, none, none, none]) (r1.mono (off_kp k13)) 2).setP (d := .leaf (.int fr)) (.lf rfl) 3).setP (d := .seq true (ws.map sD)) ?_ 4
      refine .sq (b := true) (us := ws.map V.str) (by rw [off_in pa pb]; exact hp) (by rw [List.length_map]; have : Lim = 5000 := rfl; omega) ?_
      have : ws.map sD = (ws.map V.str).map D.leaf := by rw [List.map_map]; rfl
      rw [this]
      exact Reps.lfs fun v hv => by obtain ⟨z, hz, rfl⟩ := List.mem_map.mp hv; exact leafW (hg z hz).1
    have nown := no_own (σ := [some (.ref a), some (.ref l), some c, some (.int fr), some (.ref p), none, none, none, none]) (ρ := wEnv ns fr ws) fun j d hj => by
      match j, hj with
      | 0, hj => cases hj
      | 1, hj => cases hj
      | 2, hj => cases hj
      | 3, hj => cases hj
      | 4, hj => cases hj
      | 5, hj => cases hj
      | 6, hj => cases hj
      | 7, hj => cases hj
      | 8, hj => cases hj
      | j + 9, hj => simp [wEnv] at hj
    refine DS.ev _ _ eW _ _ _ x3 _ fun v4 G4 H4 f4 r4 => ?_
    have e34 : Ex H3 H4 := fun c o z => f4.h c o z (nown c)
    have S4 := S3.kp e34
    have nn : ∀ {c : Addr}, H3 c ≠ none → off a b H3 c = none → G4 c = none := fun {c} z1 z2 => f4.nw c z1 z2 (nown c)
    obtain ⟨q1, q2, q3, q4, g1, g2, _⟩ := S3.ex
    exact k ps xs named v4 H4 hc hnl hnw (S4.le (by omega)) ((k1.trans k13).trans (Kp.of e34)) (r4.mono (off_of f4.gh (nn (by rw [g1]; exact fun z => by cases z) off_a) (nn (by rw [g2]; exact fun z => by cases z) off_b)))
end
end L2.K1

namespace L2.K1
open PySem PySem.Spec PyProof.Rows L2.Tr
section
variable {P : Program} {w : World} {K : PySem.W.Frag} {mg : Str → Option Value} {base : Heap}
abbrev sFreeO : Stmt := top 20
abbrev nFreeO : List Str := ["_law_w", "_law_name", "_law_values"]
theorem scFreeO : FnScope nFreeO ["_law_w"] (defScope sFreeO) := ⟨rfl, rfl, rfl, by decide +kernel, rfl, by decide +kernel, by decide +kernel⟩
def FFreeO : L2.Tr.Env → Option (List D) := (lcF [1, 2] (zipF (bin2 dgD (atP 0) (kD (.leaf (.str "names")))) (bin2 dgD (atP 0) (kD (.leaf (.str "values"))))) (tupT 2 (consT (setF 1) (consT (setF 2) nilT))) (asBF (bin2 (isN false) (atP 2) (kD (.leaf .non)))) (atP 1))
def fFreeO (ds : List D) : Option (List D) := if ds.length = (["_law_w"] : List Str).length then FFreeO (env0 nFreeO.length ds) else none
theorem okFreeO {f : Addr} {fd : FuncData} (F : Fun K "_law_free_names" "_law_free_names" sFreeO f fd) (B : TxB mg) : FnOk P w K mg base CX0 1 f fd ["_law_w"] (spO (fFreeO )) :=
  ok_retO (N := nFreeO) (ψ := FFreeO ) F scFreeO rfl fun cdv A outer s H E hr => ⟨_, (LcD.ow (lcI [("_law_name", 1), ("_law_values", 2)] (it_zip (pu_dg (hu_of hr) (PuD.vi (pu_var (pv 0))) (PuD.vi (pu_c pe_str (by decide +kernel))) (fun _ _ => rfl)) (pu_dg (hu_of hr) (PuD.vi (pu_var (pv 0))) (PuD.vi (pu_c pe_str (by decide +kernel))) (fun _ _ => rfl)) (by rfl) B.z_zip) (blkOk_by (N := nFreeO) (sc := defScope sFreeO) (by decide +kernel)) (fun _ _ _ _ _ => (tg_tup rfl (tgs_cons (tg_name (pg_name (i := 1) scFreeO.nd rfl (Or.inl rfl))) (tgs_cons (tg_name (pg_name (i := 2) scFreeO.nd rfl (Or.inl rfl))) tgs_nil)))) (fun _ _ _ _ _ => (tw_tup (tws_cons mono_nm (tw_name (by decide)) (tws_cons mono_nm (tw_name (by decide)) tws_nil)))) (fun _ _ _ _ _ => (te_cmp op_isN r2_isN (nomark _) (PuD.vi (pu_var (pv 2))) (PuD.vi (pu_c pe_non rfl)))) (fun _ _ _ _ _ => (pu_var (pv 1)))) rfl scFreeO.nd)⟩
abbrev sLaw : Stmt := top 32
abbrev nLaw : List Str := ["_law_script", "_law_stream", "_law_shapes", "_law_turn", "_law_w", "_law_told", "_law_name", "_law_some", "_law_free", "_law_columns", "_law_pair"]
theorem scLaw : FnScope nLaw ["_law_script"] (defScope sLaw) := ⟨rfl, rfl, rfl, by decide +kernel, rfl, by decide +kernel, by decide +kernel⟩
abbrev XL (P : Program) (w : World) (K : PySem.W.Frag) (mg : Str → Option Value) (base : Heap) (f : Addr) (cdv : Value) (A : Around) (outer : List PySem.Env) (s : Shared) (H : Hp) (E : XK) : Cx := (cxOf CX0 P w K mg base nLaw "law" (defScope sLaw) f cdv A outer s H E).nox
def tbody : List Stmt := forBody (defBody sLaw) 2
def lcZip (st : Stmt) (i : Nat) : Expr := match st with
  | .Assign _ (.ListComp _ (⟨_, .Call _ es _ _, _, _⟩ :: _) _ _) _ => es.getD i (.Constant .none 0 ⟨0, 0, 0, 0⟩)
  | _ => .Constant .none 0 ⟨0, 0, 0, 0⟩
def ifTest (st : Stmt) : Expr := match st with
  | .If e _ _ _ => e
  | _ => .Constant .none 0 ⟨0, 0, 0, 0⟩
def stAt (b : List Stmt) (i : Nat) : Stmt := b.getD i (.Pass ⟨0, 0, 0, 0⟩)
def FShapes : L2.Tr.Env → Option D := (mapS (lstDisp (consD (tupDisp (consD (mapS (lstDisp (consD (kD (.leaf (.int 2))) (consD (kD (.leaf (.int 3))) nilD)))) (consD (kD (.leaf (.int 0))) nilD))) (consD (tupDisp (consD (mapS (lstDisp (consD (kD (.leaf (.int 1))) nilD))) (consD (kD (.leaf (.int 0))) nilD))) (consD (tupDisp (consD (mapS (lstDisp (consD (kD (.leaf (.int 3))) (consD (kD (.leaf (.int 1))) (consD (kD (.leaf (.int 2))) nilD))))) (consD (kD (.leaf (.int 0))) nilD))) (consD (tupDisp (consD (mapS (lstDisp (consD (kD (.leaf (.int 2))) nilD))) (consD (kD (.leaf (.int 1))) nilD))) (consD (tupDisp (consD (mapS (lstDisp (consD (kD (.leaf (.int 2))) nilD))) (consD (kD (.leaf (.int 2))) nilD))) (consD (tupDisp (consD (mapS (lstDisp (consD (kD (.leaf (.int 3))) (consD (kD (.leaf (.int 2))) nilD)))) (consD (kD (.leaf (.int 1))) nilD))) (consD (tupDisp (consD (mapS (lstDisp nilD)) (consD (kD (.leaf (.int 1))) nilD))) (consD (tupDisp (consD (mapS (lstDisp nilD)) (consD (kD (.leaf (.int 2))) nilD))) nilD))))))))))
def FMake (C : Addr) : L2.Tr.Env → Option D := (app1 (mkD C (fInit C)) (consD (atP 5) (consD (atP 8) nilD)))
def FSpr : L2.Tr.Env → Option D := (bin2 ixD (app1 fSpare (consD (atP 4) nilD)) (kD (.leaf (.int 0))))
def FTst (fSh fAl : List D → Option D) : L2.Tr.Env → Option Bool := (orB (notB (truF (app1 fSh (consD (atP 9) (consD (atP 4) nilD))))) (notB (truF (app1 fAl (consD (atP 9) (consD (atP 4) nilD))))))
def FZ1 : L2.Tr.Env → Option D := (bin2 dgD (atP 4) (kD (.leaf (.str "names"))))
def FZ2 : L2.Tr.Env → Option D := (bin2 dgD (atP 4) (kD (.leaf (.str "values"))))
theorem shapes_d {f : Addr} (B : TxB mg) {cdv : Value} {A : Around} {outer : List PySem.Env} {s : Shared} {H : Hp} {E : XK} {k : Nat} (hr : Room 8 (A.deeper (envOfC "law" (defScope sLaw) s.heap.objs.size f cdv))) : ∃ t, PuD (XL P w K mg base f cdv A outer s H E) (asgVal (defBody sLaw) 1) t FShapes := ⟨_, (OwD.pu (ow_lst (ar_cons (pu_tup (ar_cons (OwD.pu (ow_lst (ar_cons (pu_c pe_int rfl) (ar_cons (pu_c pe_int rfl) ar_nil)))) (ar_cons (pu_c pe_int rfl) ar_nil))) (ar_cons (pu_tup (ar_cons (OwD.pu (ow_lst (ar_cons (pu_c pe_int rfl) ar_nil))) (ar_cons (pu_c pe_int rfl) ar_nil))) (ar_cons (pu_tup (ar_cons (OwD.pu (ow_lst (ar_cons (pu_c pe_int rfl) (ar_cons (pu_c pe_int rfl) (ar_cons (pu_c pe_int rfl) ar_nil))))) (ar_cons (pu_c pe_int rfl) ar_nil))) (ar_cons (pu_tup (ar_cons (OwD.pu (ow_lst (ar_cons (pu_c pe_int rfl) ar_nil))) (ar_cons (pu_c pe_int rfl) ar_nil))) (ar_cons (pu_tup (ar_cons (OwD.pu (ow_lst (ar_cons (pu_c pe_int rfl) ar_nil))) (ar_cons (pu_c pe_int rfl) ar_nil))) (ar_cons (pu_tup (ar_cons (OwD.pu (ow_lst (ar_cons (pu_c pe_int rfl) (ar_cons (pu_c pe_int rfl) ar_nil)))) (ar_cons (pu_c pe_int rfl) ar_nil))) (ar_cons (pu_tup (ar_cons (OwD.pu (ow_lst ar_nil)) (ar_cons (pu_c pe_int rfl) ar_nil))) (ar_cons (pu_tup (ar_cons (OwD.pu (ow_lst ar_nil)) (ar_cons (pu_c pe_int rfl) ar_nil))) ar_nil))))))))))⟩
theorem make_d {f : Addr} (B : TxB mg) {cdv : Value} {A : Around} {outer : List PySem.Env} {s : Shared} {H : Hp} {E : XK} {k : Nat} (hr : Room 8 (A.deeper (envOfC "law" (defScope sLaw) s.heap.objs.size f cdv))) {C : Addr} (hMk : Mkr P w K mg base "Columns" C 4 (fInit C)) : ∃ t, PuD (XL P w K mg base f cdv A outer s H E) (asgVal tbody 3) t (FMake C) := ⟨_, (pu_make hMk (hr.mono (by first | decide | omega)) (by rfl) (ar_cons (pu_var (pv 5)) (ar_cons (pu_var (pv 8)) ar_nil)))⟩
theorem spr_d {f : Addr} (B : TxB mg) {cdv : Value} {A : Around} {outer : List PySem.Env} {s : Shared} {H : Hp} {E : XK} {k : Nat} (hr : Room 8 (A.deeper (envOfC "law" (defScope sLaw) s.heap.objs.size f cdv))) (hSp : Fn P w K mg base "_law_spare" 1 1 fSpare) : ∃ t, PuD (XL P w K mg base f cdv A outer s H E) (appArg (forBody tbody 4) 0) t FSpr := ⟨_, (pu_ix (PuD.vi (pu_call hSp (hr.mono (by first | decide | omega)) (by rfl) (ar_cons (pu_var (pv 4)) ar_nil))) (PuD.vi (pu_c pe_int rfl)) (fun _ _ => rfl))⟩
theorem tst_d {f : Addr} (B : TxB mg) {cdv : Value} {A : Around} {outer : List PySem.Env} {s : Shared} {H : Hp} {E : XK} {k : Nat} (hr : Room 8 (A.deeper (envOfC "law" (defScope sLaw) s.heap.objs.size f cdv))) {fSh fAl : List D → Option D} (hSh : Fn P w K mg base "_law_shows" 6 2 fSh) (hAl : Fn P w K mg base "_law_is_alone" 6 2 fAl) : ∃ t, TeD (XL P w K mg base f cdv A outer s H E) (ifTest (stAt tbody 7)) t (FTst fSh fAl) := ⟨_, (TwD.te (tw_or (te_not (te_tru (PuD.vi (pu_call hSh (hr.mono (by first | decide | omega)) (by rfl) (ar_cons (pu_var (pv 9)) (ar_cons (pu_var (pv 4)) ar_nil)))) (fun _ => rfl))) (tw_or1 (te_not (te_tru (PuD.vi (pu_call hAl (hr.mono (by first | decide | omega)) (by rfl) (ar_cons (pu_var (pv 9)) (ar_cons (pu_var (pv 4)) ar_nil)))) (fun _ => rfl))))))⟩
theorem z1_d {f : Addr} (B : TxB mg) {cdv : Value} {A : Around} {outer : List PySem.Env} {s : Shared} {H : Hp} {E : XK} {k : Nat} (hr : Room 8 (A.deeper (envOfC "law" (defScope sLaw) s.heap.objs.size f cdv))) : ∃ t, PuD (XL P w K mg base f cdv A outer s H E) (lcZip (stAt tbody 1) 0) t FZ1 := ⟨_, (pu_dg (hu_of hr) (PuD.vi (pu_var (pv 4))) (PuD.vi (pu_c pe_str (by decide +kernel))) (fun _ _ => rfl))⟩
theorem z2_d {f : Addr} (B : TxB mg) {cdv : Value} {A : Around} {outer : List PySem.Env} {s : Shared} {H : Hp} {E : XK} {k : Nat} (hr : Room 8 (A.deeper (envOfC "law" (defScope sLaw) s.heap.objs.size f cdv))) : ∃ t, PuD (XL P w K mg base f cdv A outer s H E) (lcZip (stAt tbody 1) 1) t FZ2 := ⟨_, (pu_dg (hu_of hr) (PuD.vi (pu_var (pv 4))) (PuD.vi (pu_c pe_str (by decide +kernel))) (fun _ _ => rfl))⟩
end
end L2.K1

namespace L2.K1
open PySem PySem.Spec PyProof.Rows L2.Tr
/-! what holds no list stays where lists are dropped -/
mutual
def noL : D → Bool
  | .leaf _ => true
  | .seq b ds => !b && noLs ds
  | .dct _ ds => noLs ds
  | .obj _ _ ds => noLs ds
def noLs : List D → Bool
  | [] => true
  | d :: ds => noL d && noLs ds
end
open Classical in
noncomputable def cutH (M : Addr → Prop) (G : Hp) : Hp := fun c => if M c then none else G c
theorem cut_in {M : Addr → Prop} {G : Hp} {c : Addr} (h : ¬ M c) : cutH M G c = G c := if_neg h
theorem cut_off {M : Addr → Prop} {G : Hp} {c : Addr} (h : M c) : cutH M G c = none := if_pos h
theorem cut_un {M : Addr → Prop} {G : Hp} {c : Addr} {o : HO} (h : cutH M G c = some o) : ¬ M c ∧ G c = some o := by
  by_cases m : M c
  · rw [cut_off m] at h; cases h
  · rw [cut_in m] at h; exact ⟨m, h⟩
section
variable {G : Hp} {M : Addr → Prop} (hM : ∀ c, M c → ∃ us, G c = some (.lst us))
include hM
mutual
theorem Rep.cut : ∀ {d : D} {v : V}, noL d = true → Rep G d v → Rep (cutH M G) d v
  | .leaf x, v, _, h => by unfold Rep at h ⊢; exact h
  | .seq true ds, v, n, h => by simp [noL] at n
  | .seq false ds, v, n, h => by
    have n : noLs ds = true := by simpa [noL] using n
    obtain ⟨a, us, rfl, h1, h2, h3⟩ := h.un_sq
    refine .sq (b := false) ?_ h2 (Reps.cut n h3)
    rw [cut_in (fun m => by obtain ⟨w, e⟩ := hM a m; rw [e] at h1; cases h1)]
    exact h1
  | .dct ks ds, v, n, h => by
    have n : noLs ds = true := by simpa [noL] using n
    obtain ⟨a, us, rfl, h1, h2, h4, h3⟩ := h.un_dct
    refine .dc (us := us) ?_ h2 h4 (Reps.cut n h3)
    rw [cut_in (fun m => by obtain ⟨w, e⟩ := hM a m; rw [e] at h1; cases h1)]
    exact h1
  | .obj C ns ds, v, n, h => by
    have n : noLs ds = true := by simpa [noL] using n
    obtain ⟨a, dx, us, rfl, h1, h2, h3⟩ := h.un_obj
    refine .ob (dx := dx) (us := us) ?_ h2 (Reps.cut n h3)
    rw [cut_in (fun m => by obtain ⟨w, e⟩ := hM a m; rw [e] at h1; cases h1)]
    exact h1
theorem Reps.cut : ∀ {ds : List D} {us : List V}, noLs ds = true → Reps G ds us → Reps (cutH M G) ds us
  | [], us, _, h => by rw [h.un0]; exact .nil
  | d :: ds, us, n, h => by
    have n : noL d = true ∧ noLs ds = true := by simpa [noLs] using n
    obtain ⟨u, r, rfl, q, t⟩ := h.un
    exact .cons (Rep.cut n.1 q) (Reps.cut n.2 t)
end
end
theorem noLs_all {ds : List D} : (∀ d ∈ ds, noL d = true) → noLs ds = true := fun h => by
  induction ds with
  | nil => rfl
  | cons d ds ih =>
    unfold noLs
    rw [h d List.mem_cons_self, ih fun e he => h e (List.mem_cons_of_mem _ he)]
    rfl
theorem col_noL {C : Addr} {ps : List (Str × List Str)} {xs : List Str} : noL (colV C ps xs) = true := by
  have h : noLs ((ps.map fun p => D.seq false (p.2.map sD)) ++ xs.map fun _ => D.leaf .non) = true := by
    refine noLs_all fun d hd => ?_
    rcases List.mem_append.mp hd with q | q
    · obtain ⟨p, _, rfl⟩ := List.mem_map.mp q
      show (!false && noLs (p.2.map sD)) = true
      rw [noLs_all fun e he => by obtain ⟨z, _, rfl⟩ := List.mem_map.mp he; rfl]
      rfl
    · obtain ⟨p, _, rfl⟩ := List.mem_map.mp q
      rfl
  show noLs [.dct _ _] = true
  show (noLs _ && true) = true
  rw [h]; rfl
/-! the values of the law's own rows -/
def eW (d : D) : L2.Tr.Env := [.un, .un, .un, .un, .pu d, .un, .un, .un, .un, .un, .un]
def toldD (ps : List (Str × List Str)) : D := .seq true (ps.map fun p => .seq true [sD p.1, .seq true (p.2.map sD)])
def eT (t f : D) : L2.Tr.Env := [.un, .un, .un, .un, .un, .pu t, .un, .un, .pu f, .un, .un]
def eE (d c : D) : L2.Tr.Env := [.un, .un, .un, .un, .pu d, .un, .un, .un, .un, .pu c, .un]
theorem shapes_ok : FShapes (List.replicate 11 Sl.un) = some shD := by rfl
theorem z1_ok {ps : List (Str × List Str)} {xs named : List Str} : FZ1 (eW (wD ps xs named)) = some (.seq true ((keysOf ps xs).map sD)) := rfl
theorem z2_ok {ps : List (Str × List Str)} {xs named : List Str} : FZ2 (eW (wD ps xs named)) = some (.seq true (valsOf ps xs)) := rfl
theorem paired_told : ∀ ps : List (Str × List Str), Paired PairIs (ps.map fun p => D.seq true [sD p.1, .seq true (p.2.map sD)]) ps
  | [] => .nil
  | p :: ps => .cons ⟨true, true, rfl⟩ (paired_told ps)
theorem make_ok {C : Addr} {ps : List (Str × List Str)} {xs : List Str} (h : Cols ps xs) : FMake C (eT (toldD ps) (.seq true (xs.map sD))) = some (colV C ps xs) := init_ok (C := C) (bt := true) (bf := true) h (paired_told ps)
theorem freeO_ok {ps : List (Str × List Str)} {xs named : List Str} (h : Cols ps xs) : fFreeO [wD ps xs named] = some (xs.map sD) := by
  have e := free_ok (named := named) h
  have : fFree [wD ps xs named] = (fFreeO [wD ps xs named]).map (D.seq true) := by
    show runF nFree.length FFree [wD ps xs named] = (FFreeO (env0 nFreeO.length [wD ps xs named])).map (D.seq true)
    unfold runF FFree
    show ((retF (mapS FFreeO)) (env0 nFreeO.length [wD ps xs named])).bind _ = _
    unfold retF mapS
    cases FFreeO (env0 nFreeO.length [wD ps xs named]) <;> rfl
  rw [this] at e
  obtain ⟨z, h1, h2⟩ := Option.map_eq_some_iff.mp e
  injection h2 with _ h3
  rw [h1, h3]
theorem spr_ok {ps : List (Str × List Str)} {xs named st : List Str} {s0 : Str} (h : Cols ps xs) (hn : named.length ≤ 50) (hs : spareL ps xs named = s0 :: st) (ρ : L2.Tr.Env) (h4 : atP 4 ρ = some (wD ps xs named)) : FSpr ρ = some (sD s0) := by
  unfold FSpr
  have e : app1 fSpare (consD (atP 4) nilD) ρ = some (.seq true ((spareL ps xs named).map sD)) := by
    unfold app1 consD nilD
    rw [h4]
    exact spare_ok h hn
  rw [bin_2 e (e := .leaf (.int 0)) rfl, hs]
  show atI ((s0 :: st).map sD) 0 = _
  unfold L2.atI L2.ixN
  simp
theorem tst_ok {fSh fAl : List D → Option D} {d c : D} (h1 : fSh [c, d] = some (bD true)) (h2 : fAl [c, d] = some (bD true)) : FTst fSh fAl (eE d c) = some false := by
  unfold FTst
  rw [orB_f]
  · refine notB_ (b := true) (truB ?_)
    exact h2
  · refine notB_ (b := true) (truB ?_)
    exact h1
end L2.K1

namespace L2.K1
open PySem PySem.Spec PyProof.Rows L2.Tr
/-! told: new lists in a new list -/
structure Pr where
  n : Str
  ys : List Str
  q : Addr
  r : Addr
structure PrOk (H0 : Hp) (D : Addr) (H : Hp) (t : Pr) : Prop where
  hq : H t.q = some (.lst [.str t.n, .ref t.r])
  hr : H t.r = some (.lst (t.ys.map V.str))
  nq : H0 t.q = none
  nr : H0 t.r = none
  dq : t.q ≠ D
  dr : t.r ≠ D
theorem PrOk.mono {H0 H H' : Hp} {D : Addr} {t : Pr} (p : PrOk H0 D H t) (k : ∀ c o, c ≠ D → H c = some o → H' c = some o) : PrOk H0 D H' t := ⟨k _ _ p.dq p.hq, k _ _ p.dr p.hr, p.nq, p.nr, p.dq, p.dr⟩
abbrev gTold (K : PySem.W.Frag) : TG := gTup K 2 (gCons (gName 6) (gCons (gName 7) gNil))
abbrev tSome : TT := tTest (tOp (fun x y H Q => y = .non ∧ Q (.bl (!decide (x = .non))) H) (tVar 7) (tC .non))
abbrev tPair (K : PySem.W.Frag) : TE := tLst (tCons (tVar 6) (tCons (tCB (fun xs H Q => ∃ p ys, xs = [.ref p] ∧ (SqL K H p ys ∨ SqT K H p ys) ∧ ∀ l, H l = none → Q (.ref l) (upd H l (.lst ys))) (tCons (tVar 7) tNil)) tNil))
theorem keys_at {ps : List (Str × List Str)} {xs : List Str} {i : Nat} (h : i < ps.length) : (keysOf ps xs)[i]? = some ps[i].1 := by
  unfold keysOf
  rw [List.getElem?_append_left (by rw [List.length_map]; exact h), List.getElem?_map, List.getElem?_eq_getElem h]
  rfl
theorem vals_at {ps : List (Str × List Str)} {xs : List Str} {i : Nat} (h : i < ps.length) : (valsOf ps xs)[i]? = some (.seq false (ps[i].2.map sD)) := by
  unfold valsOf
  rw [List.getElem?_append_left (by rw [List.length_map]; exact h), List.getElem?_map, List.getElem?_eq_getElem h]
  rfl
theorem vals_none {ps : List (Str × List Str)} {xs : List Str} {i : Nat} {d : D} (h : ¬ i < ps.length) (e : (valsOf ps xs)[i]? = some d) : d = .leaf .non := by
  unfold valsOf at e
  rw [List.getElem?_append_right (by rw [List.length_map]; omega), List.getElem?_map] at e
  obtain ⟨x, _, rfl⟩ := Option.map_eq_some_iff.mp e
  rfl
theorem vals_len2 {ps : List (Str × List Str)} {xs : List Str} : (valsOf ps xs).length = ps.length + xs.length := by unfold valsOf; rw [List.length_append, List.length_map, List.length_map]
theorem reps_str {G : Hp} {xs : List Str} {us : List V} (r : Reps G (xs.map sD) us) : us = xs.map V.str := by
  have : xs.map sD = (xs.map V.str).map D.leaf := by rw [List.map_map]; rfl
  rw [this] at r
  exact r.un_lfs
theorem told_ev {K : PySem.W.Frag} {tZ1 tZ2 : TE} (Z1 : PuS tZ1 FZ1) (Z2 : PuS tZ2 FZ2) {ps : List (Str × List Str)} {xs named : List Str} (hc : Cols ps xs) {G H1 : Hp} {s0 s1 s2 s3 s4 s5 s6 s7 s8 s9 s10 : Option V}
    (x : EnvOk G H1 [s0, s1, s2, s3, s4, s5, s6, s7, s8, s9, s10] (eW (wD ps xs named))) (Q : VK)
    (k : ∀ (D : Addr) (acc : List Pr) (H' : Hp), Ex H1 H' → H1 D = none → H' D = some (.lst (acc.map fun t => .ref t.q)) → acc.map (fun t => (t.n, t.ys)) = ps → (∀ t ∈ acc, PrOk H1 D H' t) → Q (.ref D) H') :
    tLc (RZ.iZipA K (tCons tZ1 (tCons tZ2 tNil))) (gTold K) tSome (tPair K) [6, 7] [s0, s1, s2, s3, s4, s5, s6, s7, s8, s9, s10] H1 Q := by
  have l3 := hc.l3
  refine Z1 _ _ z1_ok _ _ _ x _ fun v1 G1 H2 f1 r1 => ?_
  refine Z2 _ _ z2_ok _ _ _ (x.mono f1) _ fun v2 G2 H3 f2 r2 => ?_
  obtain ⟨a1, us, rfl, h1, _, q1⟩ := (r1.mono f2.g).un_sq
  obtain ⟨a2, ws, rfl, h2, _, q2⟩ := r2.un_sq
  have e13 : Ex H1 H3 := f1.h.trans f2.h
  obtain rfl := reps_str q1
  have lk : ((keysOf ps xs).map V.str).length = ps.length + xs.length := by rw [List.length_map, keys_len]
  have lw : ws.length = ps.length + xs.length := by rw [q2.len, vals_len2]
  refine ⟨a1, a2, _, ws, rfl, .inl ⟨SqL.of (f2.gh _ _ h1), SqL.of (f2.gh _ _ h2), fun D nD => ?_⟩⟩
  have nD1 : H1 D = none := e13.back nD
  refine lc_it (n := ps.length + xs.length) (walk_zip (xs := (keysOf ps xs).map V.str) (ys := ws) (by rw [lk, lw]; omega)) (fun i H' => ∃ acc : List Pr, Ex G2 H' ∧ Ex H1 H' ∧ H' D = some (.lst (acc.map fun t => .ref t.q)) ∧ acc.map (fun t => (t.n, t.ys)) = ps.take i ∧ ∀ t ∈ acc, PrOk H1 D H' t)
    ⟨[], f2.gh.trans (Ex.new nD), e13.trans (Ex.new nD), upd_same, by rw [List.take_zero]; rfl, fun t ht => (List.not_mem_nil ht).elim⟩ (fun i H' _ ⟨_, g, _⟩ => ⟨SqL.of (g _ _ h1), SqL.of (g _ _ h2)⟩) ?_ ?_
  · rintro i y H' H'' hi ⟨acc, g1, g2, g3, g4, g5⟩ ⟨T, n, o, rfl, nT, rfl, hn, ho⟩
    have eT : Ex H' (upd H' T (.tup [n, o])) := Ex.new nT
    refine ⟨T, [n, o], rfl, SqT.of upd_same, rfl, n, [o], rfl, o, [], rfl, rfl, ?_⟩
    refine ⟨rfl, ?_⟩
    refine ⟨o, rfl, rfl, _, rfl, ?_⟩
    obtain ⟨d, hd, rd⟩ := q2.getV ho
    by_cases hip : i < ps.length
    · rw [vals_at hip] at hd
      cases hd
      obtain ⟨c, vs, rfl, hcv, _, rc⟩ := rd.un_sq
      obtain rfl := reps_str rc
      have hn : ((keysOf ps xs).map V.str)[i]? = some n := hn
      rw [List.getElem?_map, keys_at hip] at hn
      cases hn
      rw [decide_eq_false (fun z => by cases z), if_pos (show (!false) = true from rfl)]
      refine ⟨_, rfl, _, rfl, c, ps[i].2.map V.str, rfl, .inr (SqT.of (eT _ _ (g1 _ _ hcv))), fun r nr => ⟨by show 2 ≤ sizeLine; decide, fun q nq => ?_⟩⟩
      have nr' := eT.back nr
      have nq' : H' q = none := eT.back ((Ex.new nr).back nq)
      have rq : q ≠ r := fun z => by rw [z, upd_same] at nq; cases nq
      have rD : r ≠ D := fun z => by rw [z, g3] at nr'; cases nr'
      have qD : q ≠ D := fun z => by rw [z, g3] at nq'; cases nq'
      have e4 : Ex H' (upd (upd (upd H' T (.tup [.str ps[i].1, .ref c])) r (.lst (ps[i].2.map V.str))) q (.lst [.str ps[i].1, .ref r])) := (eT.trans (Ex.new nr)).trans (Ex.new nq)
      have e5 : ∀ c' o', c' ≠ D → H' c' = some o' → upd (upd (upd (upd H' T (.tup [.str ps[i].1, .ref c])) r (.lst (ps[i].2.map V.str))) q (.lst [.str ps[i].1, .ref r])) D (.lst (acc.map (fun t => V.ref t.q) ++ [.ref q])) c' = some o' := fun c' o' h z => by rw [upd_ne h]; exact e4 _ _ z
      refine ⟨_, e4 _ _ g3, ?_, acc ++ [⟨ps[i].1, ps[i].2, q, r⟩], fun c' o' z => ?_, fun c' o' z => ?_, ?_, ?_, fun t ht => ?_⟩
      · have : acc.length = (acc.map (fun t => (t.n, t.ys))).length := by rw [List.length_map]
        rw [List.length_map, this, g4, List.length_take, sizeLine_eq]; omega
      · exact e5 _ _ (fun e => by rw [e] at z; have := f2.gh _ _ z; rw [nD] at this; cases this) (g1 _ _ z)
      · exact e5 _ _ (ne_of_none z nD1) (g2 _ _ z)
      · rw [upd_same, List.map_append]; rfl
      · rw [List.map_append, g4, List.take_succ, List.getElem?_eq_getElem hip]; rfl
      · rcases List.mem_append.mp ht with z | z
        · exact (g5 t z).mono e5
        · obtain rfl := List.mem_singleton.mp z
          exact ⟨by rw [upd_ne qD, upd_same], by rw [upd_ne rD, upd_ne (Ne.symm rq), upd_same], g2.back nq', g2.back nr', qD, rD⟩
    · have := vals_none hip hd
      subst this
      obtain ⟨rfl, _⟩ := rd.un_lf
      rw [decide_eq_true rfl, if_neg (show ¬ (!true) = true by decide)]
      refine ⟨acc, g1.trans eT, g2.trans eT, eT _ _ g3, ?_, fun t ht => (g5 t ht).mono fun c o _ z => eT _ _ z⟩
      rw [g4, List.take_of_length_le (by omega), List.take_of_length_le (by omega)]
  · rintro H' ⟨acc, g1, g2, g3, g4, g5⟩
    exact k D acc H' g2 nD1 g3 (by rw [g4, List.take_of_length_le (by omega)]) g5
end L2.K1

namespace L2.K1
open PySem PySem.Spec PyProof.Rows L2.Tr
def spLaw (K : PySem.W.Frag) : Sp := fun vs H Q _ => ∃ (p : Addr) (ns : List Int), vs = [.ref p] ∧ SqL K H p (ns.map V.int) ∧ ∀ H', Q (.bl true) H'
theorem env_w {G H : Hp} {σ : L2.St} {d : D} {v : V} (x : Ex G H) (hl : σ.length = 11) (h4 : σ[4]? = some (some v)) (r : Rep G d v) : EnvOk G H σ (eW d) := by
  have e : σ.set 4 (some v) = σ := by
    refine List.ext_getElem? fun i => ?_
    by_cases h : 4 = i
    · subst h; rw [List.getElem?_set_self (by omega), h4]
    · rw [List.getElem?_set_ne h]
  have := (un_env x (n := 11) hl).setP r 4
  rw [e] at this
  exact this
theorem set_same {σ : L2.St} {i : Nat} {v : V} (hi : i < σ.length) (h : σ[i]? = some (some v)) : σ.set i (some v) = σ := by
  refine List.ext_getElem? fun j => ?_
  by_cases e : i = j
  · subst e; rw [List.getElem?_set_self hi, h]
  · rw [List.getElem?_set_ne e]
theorem env_two {G H : Hp} {σ : L2.St} {i j : Nat} {d d' : D} {v v' : V} (x : Ex G H) (hl : σ.length = 11) (hi : i < 11) (hj : j < 11) (h1 : σ[i]? = some (some v)) (h2 : σ[j]? = some (some v')) (r : Rep G d v) (r' : Rep G d' v') :
    EnvOk G H σ (((List.replicate 11 Sl.un).set i (.pu d)).set j (.pu d')) := by
  have := ((un_env x (n := 11) hl).setP r i).setP r' j
  rw [set_same (by omega) h1, set_same (by omega) h2] at this
  exact this
theorem told_rep {H4 H6 : Hp} {a b Dt : Addr} {n : Nat} {ps : List (Str × List Str)} {acc : List Pr} (S4 : StO H4 a b n) (neD : Dt ≠ a ∧ Dt ≠ b) (hD6 : H6 Dt = some (.lst (acc.map fun t => .ref t.q))) (hacc : acc.map (fun t => (t.n, t.ys)) = ps) (hl : ps.length ≤ 3)
    (pr6 : ∀ t ∈ acc, PrOk H4 Dt H6 t) (tl : ∀ t ∈ acc, Told (t.n, t.ys)) : Rep (off a b H6) (toldD ps) (.ref Dt) := by
  have hLim : Lim = 5000 := rfl
  refine .sq (b := true) (us := acc.map fun t => .ref t.q) (by rw [off_in neD.1 neD.2]; exact hD6) (by rw [List.length_map]; omega) ?_
  rw [← hacc]
  have all : ∀ l : List Pr, (∀ t ∈ l, PrOk H4 Dt H6 t) → (∀ t ∈ l, Told (t.n, t.ys)) → Reps (off a b H6) ((l.map fun t => (t.n, t.ys)).map fun p => D.seq true [sD p.1, .seq true (p.2.map sD)]) (l.map fun t => V.ref t.q) := fun l => by
    induction l with
    | nil => exact fun _ _ => .nil
    | cons t l ih =>
      intro h h3
      have ht := h t List.mem_cons_self
      have n1 := S4.ne ht.nq
      have n2 := S4.ne ht.nr
      have td := h3 t List.mem_cons_self
      have hl : t.ys.length ≤ 3 := td.v.hi
      have hw : ∀ y ∈ t.ys, isW y = true := td.v.ws
      have e : t.ys.map sD = (t.ys.map V.str).map D.leaf := by rw [List.map_map]; rfl
      refine .cons (.sq (b := true) (us := [.str t.n, .ref t.r]) (by rw [off_in n1.1 n1.2]; exact ht.hq) (by show 2 ≤ Lim; decide) (.cons (.lf (leafW td.n.w)) (.cons (.sq (b := true) (us := t.ys.map V.str) (by rw [off_in n2.1 n2.2]; exact ht.hr) ?_ ?_) .nil))) (ih (fun u hu => h u (List.mem_cons_of_mem _ hu)) fun u hu => h3 u (List.mem_cons_of_mem _ hu))
      · show (t.ys.map sD).length ≤ Lim
        rw [List.length_map]; omega
      · show Reps _ (t.ys.map sD) _
        rw [e]
        exact Reps.lfs fun v hv => by obtain ⟨z, hz, rfl⟩ := List.mem_map.mp hv; exact leafW (hw z hz)
  exact all acc pr6 tl
section
variable {P : Program} {w : World} {K : PySem.W.Frag} {mg : Str → Option Value} {base : Heap}
theorem ok_law {C f fst fwo ffr : Addr} {fd dst dwo dfr : FuncData} {fSh fAl : List D → Option D} (F : Fun K "law" "law" sLaw f fd) (B : TxB mg)
    (m_st : mg "_law_start" = some (.ref fst)) (k_st : PySem.W.keepIn K (.ref fst) = true) (GS : FnOk P w K mg base CX0 1 fst dst ["_law_script"] (spStart K)) (bS : Binds K dst ["_law_script"] [])
    (m_wo : mg "_law_world" = some (.ref fwo)) (k_wo : PySem.W.keepIn K (.ref fwo) = true) (GWo : FnOk P w K mg base CX0 5 fwo dwo ["_law_stream", "_law_shapes"] spWorld) (bWo : Binds K dwo ["_law_stream", "_law_shapes"] [])
    (m_fr : mg "_law_free_names" = some (.ref ffr)) (k_fr : PySem.W.keepIn K (.ref ffr) = true) (GF : FnOk P w K mg base CX0 1 ffr dfr ["_law_w"] (spO fFreeO)) (bF : Binds K dfr ["_law_w"] [])
    (hMk : Mkr P w K mg base "Columns" C 4 (fInit C)) (hSp : Fn P w K mg base "_law_spare" 1 1 fSpare) (hSh : Fn P w K mg base "_law_shows" 6 2 fSh) (hAl : Fn P w K mg base "_law_is_alone" 6 2 fAl)
    (tru : ∀ (ps : List (Str × List Str)) (xs named : List Str), Cols ps xs → named.length ≤ 2 → (∀ x ∈ named, isW x = true) → fSh [colV C ps xs, wD ps xs named] = some (bD true) ∧ fAl [colV C ps xs, wD ps xs named] = some (bD true)) :
    FnOk P w K mg base CX0 9 f fd ["_law_script"] (spLaw K) := by
  refine F.ok scLaw (fun vs H Q E h => ?_) (fun cdv A outer s H vs Q E hr h => ?_)
  · obtain ⟨p, ns, rfl, _⟩ := h
    rfl
  · obtain ⟨p, ns, rfl, hp, k⟩ := h
    obtain ⟨tS, DS⟩ := shapes_d (P := P) (w := w) (K := K) (mg := mg) (base := base) (f := f) (cdv := cdv) (A := A) (outer := outer) (s := s) (H := H) (E := E) (k := 0) B hr
    obtain ⟨tM, DM⟩ := make_d (P := P) (w := w) (K := K) (mg := mg) (base := base) (f := f) (cdv := cdv) (A := A) (outer := outer) (s := s) (H := H) (E := E) (k := 0) B hr hMk
    obtain ⟨tP, DP⟩ := spr_d (P := P) (w := w) (K := K) (mg := mg) (base := base) (f := f) (cdv := cdv) (A := A) (outer := outer) (s := s) (H := H) (E := E) (k := 0) B hr hSp
    obtain ⟨tT, DT⟩ := tst_d (P := P) (w := w) (K := K) (mg := mg) (base := base) (f := f) (cdv := cdv) (A := A) (outer := outer) (s := s) (H := H) (E := E) (k := 0) B hr hSh hAl
    obtain ⟨tZ1, Z1⟩ := z1_d (P := P) (w := w) (K := K) (mg := mg) (base := base) (f := f) (cdv := cdv) (A := A) (outer := outer) (s := s) (H := H) (E := E) (k := 0) B hr
    obtain ⟨tZ2, Z2⟩ := z2_d (P := P) (w := w) (K := K) (mg := mg) (base := base) (f := f) (cdv := cdv) (A := A) (outer := outer) (s := s) (H := H) (E := E) (k := 0) B hr
    refine ⟨_, (pss_cons (ps_set (i := 1) scLaw.nd rfl (by first | exact Or.inl rfl | exact Or.inr rfl) (pe_call GS (hr.mono (by decide)) rfl m_st k_st bS .nil pass0 (pa_cons (pv 0) pa_nil)))
      (pss_cons (ps_set (i := 2) scLaw.nd rfl (by first | exact Or.inl rfl | exact Or.inr rfl) DS.pe)
      (pss_cons (ps_for PassesOwn.never rfl (pi_range1 (by rfl) B.z_range (pa_cons pe_int pa_nil)) (pg_name (i := 3) scLaw.nd rfl (by first | exact Or.inl rfl | exact Or.inr rfl))
        (pss_cons (ps_set (i := 4) scLaw.nd rfl (by first | exact Or.inl rfl | exact Or.inr rfl) (pe_call GWo (hr.mono (by decide)) rfl m_wo k_wo bWo .nil pass0 (pa_cons (pv 1) (pa_cons (pv 2) pa_nil))))
        (pss_cons (ps_setLc (i := 5) (own := [("_law_name", 6), ("_law_some", 7)]) (g := gTold K) (tt := tSome) (te := tPair K) rfl scLaw.nd rfl rfl (sw_true rfl rfl rfl (by decide +kernel)) (RZ.pi_zipA (by rfl) B.z_zip (pa_cons Z1.pe (pa_cons Z2.pe pa_nil)) (by rfl) (by rfl)) (blkOk_by (N := nLaw) (sc := defScope sLaw) (by decide +kernel))
            (fun _ _ _ _ _ => (tg_tup rfl (tgs_cons (tg_name (pg_name (i := 6) scLaw.nd rfl (Or.inl rfl))) (tgs_cons (tg_name (pg_name (i := 7) scLaw.nd rfl (Or.inl rfl))) tgs_nil))).pg)
            (fun _ _ _ _ _ => pts_one (pt_cmpR op_notN (pv 7) pe_non (nomark _)))
            (fun _ _ _ _ _ => pe_lst (pa_cons (pv 6) (pa_cons (pe_callTy call_list_of (by rfl) B.z_list (by decide +kernel) (pa_cons (pv 7) pa_nil)) pa_nil))))
        (pss_cons (ps_set (i := 8) scLaw.nd rfl (by first | exact Or.inl rfl | exact Or.inr rfl) (pe_call GF (hr.mono (by decide)) rfl m_fr k_fr bF .nil pass0 (pa_cons (pv 4) pa_nil)))
        (pss_cons (ps_set (i := 9) scLaw.nd rfl (by first | exact Or.inl rfl | exact Or.inr rfl) DM.pe)
        (pss_cons (ps_for PassesOwn.never rfl (pi_list (pv 5)) (pg_name (i := 10) scLaw.nd rfl (by first | exact Or.inl rfl | exact Or.inr rfl))
          (pss_one (ps_expr (pe_bm PySem.F.plainAttrs_list PySem.F.slot_list_append PySem.F.type_list_append mt_append (pe_ix ix_list (pv 10) pe_int (fun _ _ => rfl)) (pa_cons DP.pe pa_nil)))))
        (pss_cons (ps_expr (pe_bm PySem.F.plainAttrs_list PySem.F.slot_list_append PySem.F.type_list_append mt_append (pv 5) (pa_cons pe_str pa_nil)))
        (pss_cons (ps_expr (pe_bm PySem.F.plainAttrs_list PySem.F.slot_list_append PySem.F.type_list_append mt_append (pv 8) (pa_cons pe_str pa_nil)))
        (pss_one (ps_if DT.pt (pss_one (ps_ret pe_bl)) pss_nil))))))))))
      (pss_one (ps_ret pe_bl))))), ?_⟩
    refine ⟨_, rfl, p, ns, rfl, hp, fun a b H1 S1 e1 na nb => ?_⟩
    have x1 : EnvOk (off a b H1) H1 [some (.ref p), some (.ref a), none, none, none, none, none, none, none, none, none] (List.replicate 11 Sl.un) := un_env off_ex rfl
    refine DS.ev _ _ shapes_ok _ _ _ x1 _ fun vs G2 H2 f2 r2 => ?_
    have ab_none : ∀ {H G' H' : Hp} {n : Nat}, StO H a b n → Tr.Fr (off a b H) H G' H' → G' a = none ∧ G' b = none := fun {H G' H' n} s f => by
      obtain ⟨q1, q2, q3, q4, g1, g2, _⟩ := s.ex
      exact ⟨f.nw a (by rw [g1]; exact fun z => by cases z) off_a, f.nw b (by rw [g2]; exact fun z => by cases z) off_b⟩
    obtain ⟨ga, gb⟩ := ab_none S1 f2
    have rs : Rep (off a b H2) shD vs := r2.mono (off_of f2.gh ga gb)
    have S2 := S1.kp f2.h
    clear x1 r2 ga gb
    refine ⟨4, rfl, by decide, by decide, ?_⟩
    refine for_it walk_range (fun i σ' H' => ∃ (s3 s4 s5 s6 s7 s8 s9 s10 : Option V), σ' = [some (.ref p), some (.ref a), some vs, s3, s4, s5, s6, s7, s8, s9, s10] ∧ StO H' a b (200 * i) ∧ Rep (off a b H') shD vs)
      ⟨_, _, _, _, _, _, _, _, rfl, S2.le (by omega), rs⟩ (fun _ _ _ _ _ => trivial) ?_ ?_
    · rintro i y σ' H3 H3' hi ⟨s3, s4, s5, s6, s7, s8, s9, s10, rfl, S3, rs3⟩ ⟨rfl, rfl⟩
      have hi4 : i < 4 := by simpa using hi
      refine ⟨_, rfl, _, rfl, a, b, 200 * i, vs, rfl, S3, by omega, rs3, fun ps xs named vw H4 hc hnl hnw S4 k4 rw4 => ?_⟩
      have l3 := hc.l3
      obtain ⟨s0, st, hsp, _⟩ := spare_good hc (Nat.le_of_eq hnl)
      -- told
      dsimp only [gName, tSeq, tAsg]
      refine told_ev (K := K) (s0 := some (.ref p)) (s1 := some (.ref a)) (s2 := some vs) (s3 := some (.int (0 + (i : Nat)))) (s4 := some vw) (s5 := s5) (s6 := s6) (s7 := s7) (s8 := s8) (s9 := s9) (s10 := s10) (named := named) Z1.ev Z2.ev hc (env_w off_ex rfl rfl rw4) _ fun Dt acc H5 e5 nD hD hacc hpr => ?_
      have S5 := S4.kp e5
      have alen : acc.length = ps.length := by rw [← hacc, List.length_map]
      -- free
      refine ⟨_, rfl, off a b H4, [wD ps xs named], xs.map sD, off_ex.trans e5, .cons rw4 .nil, freeO_ok hc, fun q us G6 H6 f6 nq gq hq hql rq => ?_⟩
      obtain rfl := reps_str rq
      have S6 := S5.kp f6.h
      have hD6 := f6.h _ _ hD
      have pr6 : ∀ t ∈ acc, PrOk H4 Dt H6 t := fun t ht => (hpr t ht).mono fun c o _ z => f6.h _ _ z
      have nq4 : H4 q = none := e5.back nq
      have e46 : Ex H4 H6 := e5.trans f6.h
      have neD := S4.ne nD
      have neq := S4.ne nq4
      -- Columns(told, free)
      have tl : ∀ t ∈ acc, Told (t.n, t.ys) := fun t ht => hc.t _ (by rw [← hacc]; exact List.mem_map.mpr ⟨t, ht, rfl⟩)
      have rT := told_rep S4 neD hD6 hacc (by omega) pr6 tl
      have rF : Rep (off a b H6) (.seq true (xs.map sD)) (.ref q) := .sq (b := true) (us := xs.map V.str) (by rw [off_in neq.1 neq.2]; exact hq) hql (rq.mono (off_of f6.gh (f6.nw a (by obtain ⟨q1, q2, q3, q4, g1, g2, _⟩ := S5.ex; rw [g1]; exact fun z => by cases z) off_a) (f6.nw b (by obtain ⟨q1, q2, q3, q4, g1, g2, _⟩ := S5.ex; rw [g2]; exact fun z => by cases z) off_b)))
      refine DM.ev _ _ (make_ok (C := C) hc) _ _ _ (env_two (i := 5) (j := 8) off_ex rfl (by decide) (by decide) rfl rfl rT rF) _ fun vc G7 H7 f7 rc => ?_
      -- what is told apart from what is written to
      have rq_ne : ∀ t ∈ acc, t.r ≠ q := fun t ht z => by
        have := (hpr t ht).hr
        rw [z, nq] at this; cases this
      have Dq : Dt ≠ q := fun z => by rw [z, nq] at hD; cases hD
      have qr_ne : ∀ t ∈ acc, ∀ u ∈ acc, u.q ≠ t.r := fun t ht u hu z => by
        have h1 := (pr6 u hu).hq
        rw [z, (pr6 t ht).hr] at h1
        injection h1 with h1
        injection h1 with h1
        match t.ys, h1 with
        | [], h1 => cases h1
        | [_], h1 => cases h1
        | _ :: _ :: _, h1 => cases h1
      let M : Addr → Prop := fun c => c = Dt ∨ c = q ∨ ∃ t ∈ acc, c = t.r
      have M4 : ∀ c, M c → H4 c = none := fun c h => by
        rcases h with rfl | rfl | ⟨t, ht, rfl⟩
        · exact nD
        · exact nq4
        · exact (hpr t ht).nr
      have hM : ∀ c, M c → ∃ us, G7 c = some (.lst us) := fun c h => by
        have n := S4.ne (M4 c h)
        have : ∃ us, H6 c = some (.lst us) := by
          rcases h with rfl | rfl | ⟨t, ht, rfl⟩
          · exact ⟨_, hD6⟩
          · exact ⟨_, hq⟩
          · exact ⟨_, (pr6 t ht).hr⟩
        obtain ⟨us, e⟩ := this
        exact ⟨us, f7.g _ _ (by rw [off_in n.1 n.2]; exact e)⟩
      have rc8 := Rep.cut hM col_noL rc
      have x48 : Ex (off a b H4) (cutH M G7) := fun c o z => by
        obtain ⟨z1, z2, z3⟩ := off_un z
        rw [cut_in (fun m => by rw [M4 c m] at z3; cases z3)]
        exact f7.g _ _ (by rw [off_in z1 z2]; exact e46 _ _ z3)
      have rw8 := rw4.mono x48
      have g87 : Ex (cutH M G7) H7 := fun c o z => f7.gh _ _ (cut_un z).2
      have cM : ∀ {c : Addr}, M c → ∀ {o : HO}, cutH M G7 c = some o → False := fun {c} m {o} z => (cut_un z).1 m
      generalize hG8 : cutH M G7 = G8 at rc8 rw8 g87 cM
      have S7 := S6.kp f7.h
      have hD7 := f7.h _ _ hD6
      have hq7 := f7.h _ _ hq
      have pr7 : ∀ t ∈ acc, PrOk H4 Dt H7 t := fun t ht => (pr6 t ht).mono fun c o _ z => f7.h _ _ z
      have e47 : Ex H4 H7 := e46.trans f7.h
      have hLim : Lim = 5000 := rfl
      have lxs : xs.length ≤ 3 := by omega
      refine ⟨_, rfl, Dt, rfl, ⟨_, SqL.of hD7⟩, ?_⟩
      refine for_it walk_list (fun j σ' H' => ∃ s10' : Option V, σ' = [some (.ref p), some (.ref a), some vs, some (.int (0 + (i : Nat))), some vw, some (.ref Dt), s6, s7, some (.ref q), some vc, s10'] ∧ Ex G8 H' ∧ StO H' a b (200 * i + 200) ∧ H' Dt = some (.lst (acc.map fun t => .ref t.q)) ∧ (∃ us, H' q = some (.lst us) ∧ us.length ≤ 10) ∧
          (∀ t ∈ acc, H' t.q = some (.lst [.str t.n, .ref t.r]) ∧ ∃ zs, H' t.r = some (.lst zs) ∧ zs.length ≤ 3 + j) ∧ Ex H4 H')
        ⟨_, rfl, g87, S7, hD7, ⟨_, hq7, by rw [List.length_map]; omega⟩, fun t ht => ⟨(pr7 t ht).hq, _, (pr7 t ht).hr, by have := (tl t ht).v.hi; rw [List.length_map]; omega⟩, e47⟩ (fun _ _ _ _ h => by obtain ⟨_, _, _, _, h, _⟩ := h; exact SqL.of h) ?_ ?_
      · rintro j y σ' H8 H8' hj ⟨s10', rfl, g8, S8, hD8, ⟨us8, hq8, lq8⟩, pr8, e48⟩ ⟨rfl, hy⟩
        rw [List.getElem?_map] at hy
        obtain ⟨t, ht, rfl⟩ := Option.map_eq_some_iff.mp hy
        have htm := List.mem_of_getElem? ht
        obtain ⟨hq8', zs, hr8, lz⟩ := pr8 t htm
        have hj3 : j < 3 := by rw [List.length_map] at hj; omega
        refine ⟨_, rfl, t.q, _, 1, .ref t.r, rfl, rfl, SqL.of hq8', rfl, .inl ⟨rfl, _, SqL.of hr8⟩, ?_⟩
        refine DP.ev _ _ (spr_ok hc (by omega) hsp _ rfl) _ _ _ (env_w (v := vw) g8 rfl rfl rw8) _ fun v9 G9 H9 f9 r9 => ?_
        have n4 := (hpr t htm).nr
        have nab := S4.ne n4
        have Mr : M t.r := .inr (.inr ⟨t, htm, rfl⟩)
        refine ⟨t.r, zs, v9, rfl, rfl, f9.h _ _ hr8, by rw [sizeLine_eq]; omega, _, rfl, fun c o z => ?_, (S8.kp f9.h).up nab.1 nab.2, ?_, ⟨us8, ?_, lq8⟩, fun u hu => ⟨?_, ?_⟩, fun c o z => ?_⟩
        · rw [upd_ne (fun e => cM Mr (e ▸ z))]; exact f9.h _ _ (g8 _ _ z)
        · rw [upd_ne (Ne.symm (hpr t htm).dr)]; exact f9.h _ _ hD8
        · rw [upd_ne (Ne.symm (rq_ne t htm))]; exact f9.h _ _ hq8
        · rw [upd_ne (qr_ne t htm u hu)]; exact f9.h _ _ (pr8 u hu).1
        · obtain ⟨ws, hw, lw⟩ := (pr8 u hu).2
          by_cases e : u.r = t.r
          · exact ⟨zs ++ [v9], by rw [e, upd_same], by rw [List.length_append, List.length_singleton]; omega⟩
          · exact ⟨ws, by rw [upd_ne e]; exact f9.h _ _ hw, by omega⟩
        · rw [upd_ne (ne_of_none z n4)]; exact f9.h _ _ (e48 _ _ z)
      · rintro σ' H8 ⟨s10', rfl, g8, S8, hD8, ⟨us8, hq8, lq8⟩, pr8, e48⟩
        -- told.append, free.append
        have hq9 : upd H8 Dt (.lst ((acc.map fun t => V.ref t.q) ++ [.str "more"])) q = some (.lst us8) := by rw [upd_ne (Ne.symm Dq)]; exact hq8
        refine ⟨_, rfl, .inl ⟨rfl, _, SqL.of hD8⟩, Dt, _, _, rfl, rfl, hD8, by rw [List.length_map, sizeLine_eq]; omega, ?_⟩
        refine ⟨_, rfl, .inl ⟨rfl, _, SqL.of hq9⟩, q, _, _, rfl, rfl, hq9, by rw [sizeLine_eq]; omega, ?_⟩
        generalize hH10 : upd (upd H8 Dt _) q _ = H10
        have k10 : ∀ {c : Addr} {o : HO}, ¬ M c → H8 c = some o → H10 c = some o := fun {c o} m z => by
          rw [← hH10, upd_ne (fun e => m (.inr (.inl e))), upd_ne (fun e => m (.inl e))]; exact z
        have g10 : Ex G8 H10 := fun c o z => k10 (fun m => cM m z) (g8 _ _ z)
        have e10 : Ex H4 H10 := fun c o z => k10 (fun m => by rw [M4 c m] at z; cases z) (e48 _ _ z)
        have S10 : StO H10 a b (200 * i + 200) := by rw [← hH10]; exact (S8.up neD.1 neD.2).up neq.1 neq.2
        obtain ⟨t1, t2⟩ := tru ps xs named hc (Nat.le_of_eq hnl) hnw
        refine DT.ev _ _ (tst_ok t1 t2) _ _ _ (env_two (i := 4) (j := 9) (v := vw) (v' := vc) g10 rfl (by decide) (by decide) rfl rfl rw8 rc8) _ fun G11 H11 f11 => ?_
        exact ⟨_, _, _, _, _, _, _, _, rfl, (S10.kp f11.h).le (by omega), rs3.mono (off_kp (k4.trans (Kp.of (e10.trans f11.h))))⟩
    · rintro σ' H3 ⟨s3, s4, s5, s6, s7, s8, s9, s10, rfl, S3, rs3⟩
      exact k _
end
end L2.K1

namespace L2.K1
open PySem PySem.Spec PyProof.Rows L2.Tr
theorem kit_no {K : PySem.W.Frag} {C : Addr} {s : String} (hd : PySem.W.hasDictIn K C = true) (ty : PySem.W.typeIn K (.ref C) = some (.type "type")) (h : PySem.W.subIn K (.type s) (.ref C) = some false) : PySem.W.kitOne K (.type s) (.ref C) = some false := by
  unfold PySem.W.kitOne
  rw [if_neg (by simp)]
  show (if ((PySem.W.clsIn K C).isSome && PySem.W.typeIn K (.ref C) == some (.type "type")) = true then PySem.W.subIn K (.type s) (.ref C) else none) = _
  have : (PySem.W.clsIn K C).isSome = true := by
    unfold PySem.W.hasDictIn at hd
    cases e : PySem.W.clsIn K C with
    | some _ => rfl
    | none => rw [e] at hd; simp at hd
  rw [this, ty, if_pos (by rfl)]
  exact h
theorem all_mk {l : PySem.W.OpenLaw} {w : World} {K : PySem.W.Frag} {h : Heap} {mg : Str → Option Value} {fa : Addr} (X : K.In h) (G : h.Ns mainGlobals mg) (hfa : mg "law" = some (.ref fa))
    {C : Addr}
    {fI : Addr} {ocI kVI dcI pmI cdI ctI : Value} {odI anI : Option Addr} {slI : Array (Option Value)}
    {TD TE : Addr} {nT : Nat} {oT : Option Addr} {sT : Array (Option Value)} {ocT : Value}
    {fnm : Addr} {ocnm kVnm dcnm pmnm cdnm ctnm : Value} {odnm annm : Option Addr} {slnm : Array (Option Value)}
    {fln : Addr} {ocln kVln dcln pmln cdln ctln : Value} {odln anln : Option Addr} {slln : Array (Option Value)}
    {fco : Addr} {occo kVco dcco pmco cdco ctco : Value} {odco anco : Option Addr} {slco : Array (Option Value)}
    {ftv : Addr} {octv kVtv dctv pmtv cdtv cttv : Value} {odtv antv : Option Addr} {sltv : Array (Option Value)}
    {fir : Addr} {ocir kVir dcir pmir cdir ctir : Value} {odir anir : Option Addr} {slir : Array (Option Value)}
    {feq : Addr} {oceq kVeq dceq pmeq cdeq cteq : Value} {odeq aneq : Option Addr} {sleq : Array (Option Value)}
    {fisW : Addr} {ocisW kVisW dcisW pmisW cdisW ctisW : Value} {odisW anisW : Option Addr} {slisW : Array (Option Value)}
    {fisL : Addr} {ocisL kVisL dcisL pmisL cdisL ctisL : Value} {odisL anisL : Option Addr} {slisL : Array (Option Value)}
    {fisN : Addr} {ocisN kVisN dcisN pmisN cdisN ctisN : Value} {odisN anisN : Option Addr} {slisN : Array (Option Value)}
    {fare : Addr} {ocare kVare dcare pmare cdare ctare : Value} {odare anare : Option Addr} {slare : Array (Option Value)}
    {ftold : Addr} {octold kVtold dctold pmtold cdtold cttold : Value} {odtold antold : Option Addr} {sltold : Array (Option Value)}
    {fcan : Addr} {occan kVcan dccan pmcan cdcan ctcan : Value} {odcan ancan : Option Addr} {slcan : Array (Option Value)}
    {fwo : Addr} {ocwo kVwo dcwo pmwo cdwo ctwo : Value} {odwo anwo : Option Addr} {slwo : Array (Option Value)}
    {ffr : Addr} {ocfr kVfr dcfr pmfr cdfr ctfr : Value} {odfr anfr : Option Addr} {slfr : Array (Option Value)}
    {fle : Addr} {ocle kVle dcle pmle cdle ctle : Value} {odle anle : Option Addr} {slle : Array (Option Value)}
    {fspr : Addr} {ocspr kVspr dcspr pmspr cdspr ctspr : Value} {odspr anspr : Option Addr} {slspr : Array (Option Value)}
    {fdraw : Addr} {ocdraw kVdraw dcdraw pmdraw cddraw ctdraw : Value} {oddraw andraw : Option Addr} {sldraw : Array (Option Value)}
    {fstart : Addr} {ocstart kVstart dcstart pmstart cdstart ctstart : Value} {odstart anstart : Option Addr} {slstart : Array (Option Value)}
    {fpick : Addr} {ocpick kVpick dcpick pmpick cdpick ctpick : Value} {odpick anpick : Option Addr} {slpick : Array (Option Value)}
    {fsame : Addr} {ocsame kVsame dcsame pmsame cdsame ctsame : Value} {odsame ansame : Option Addr} {slsame : Array (Option Value)}
    {fword : Addr} {ocword kVword dcword pmword cdword ctword : Value} {odword anword : Option Addr} {slword : Array (Option Value)}
    {fwords : Addr} {ocwords kVwords dcwords pmwords cdwords ctwords : Value} {odwords anwords : Option Addr} {slwords : Array (Option Value)}
    {fodd : Addr} {ocodd kVodd dcodd pmodd cdodd ctodd : Value} {ododd anodd : Option Addr} {slodd : Array (Option Value)}
    {fshows : Addr} {ocshows kVshows dcshows pmshows cdshows ctshows : Value} {odshows anshows : Option Addr} {slshows : Array (Option Value)}
    {falone : Addr} {ocalone kValone dcalone pmalone cdalone ctalone : Value} {odalone analone : Option Addr} {slalone : Array (Option Value)}
    {flaw : Addr} {oclaw kVlaw dclaw pmlaw cdlaw ctlaw : Value} {odlaw anlaw : Option Addr} {sllaw : Array (Option Value)}
    {tLE tML tMV tMC tMF : _}
    (aC : PySem.W.nsIn K mainGlobals "Columns" = some (some (.ref C)))
    (pg : PySem.W.plainGet K C Str.empty = true)
    (hd : PySem.W.hasDictIn K C = true)
    (po : PySem.W.plainOver K C = true)
    (saC : PySem.W.findIn K (.ref C) "__setattr__" = some (some (.builtin "object.__setattr__")))
    (nVC : PySem.W.findIn K (.ref C) "_values" = some none)
    (mkC : PySem.W.makesIn K C = true)
    (kCC : PySem.W.keepIn K (.ref C) = true)
    (clC : PySem.W.findIn K (.ref C) "__class__" = some (some (.builtin "object.__class__")))
    (gsC : PySem.W.specialIn K (.builtin "object.__class__") "__get__" = some (some (.builtin "getset_descriptor.__get__")))
    (tkC : PySem.W.takesIn K (.builtin "object.__class__") = some true)
    (moC : PySem.W.mroIn K C (.type "object") = some true)
    (neC : PySem.W.findIn K (.ref C) "__ne__" = some (some (.builtin "object.__ne__")))
    (tyC : PySem.W.typeIn K (.ref C) = some (.type "type"))
    (kt0 : PySem.W.subIn K (.type "NoneType") (.ref C) = some false)
    (kt1 : PySem.W.subIn K (.type "bool") (.ref C) = some false)
    (kt2 : PySem.W.subIn K (.type "int") (.ref C) = some false)
    (kt3 : PySem.W.subIn K (.type "str") (.ref C) = some false)
    (kt4 : PySem.W.subIn K (.type "list") (.ref C) = some false)
    (kt5 : PySem.W.subIn K (.type "tuple") (.ref C) = some false)
    (kt6 : PySem.W.subIn K (.type "dict") (.ref C) = some false)
    (iC : PySem.W.findIn K (.ref C) "__init__" = some (some (.ref fI)))
    (fnI : PySem.W.isFn K (.ref fI) = true)
    (lI : K.lookup fI = some ⟨ocI, odI, .func (PySem.W.fnOf "__init__" "Columns.__init__" (defArgs sInit) (defBody sInit) (defScope sInit) (.ref TD) kVI dcI pmI anI cdI ctI), slI⟩)
    (cI : PySem.W.codeIn K cdI "Columns.__init__" = true)
    (kfI : PySem.W.keepIn K (.ref fI) = true)
    (lTD : K.lookup TD = some ⟨ocT, oT, .seq #[.ref TE] nT, sT⟩)
    (inm : PySem.W.findIn K (.ref C) "names" = some (some (.ref fnm)))
    (fnnm : PySem.W.isFn K (.ref fnm) = true)
    (lnm : K.lookup fnm = some ⟨ocnm, odnm, .func (PySem.W.fnOf "names" "Columns.names" (defArgs sNames) (defBody sNames) (defScope sNames) .none kVnm dcnm pmnm annm cdnm ctnm), slnm⟩)
    (cnm : PySem.W.codeIn K cdnm "Columns.names" = true)
    (knm : PySem.W.keepIn K (.ref fnm) = true)
    (iln : PySem.W.findIn K (.ref C) "__len__" = some (some (.ref fln)))
    (fnln : PySem.W.isFn K (.ref fln) = true)
    (lln : K.lookup fln = some ⟨ocln, odln, .func (PySem.W.fnOf "__len__" "Columns.__len__" (defArgs sLen) (defBody sLen) (defScope sLen) .none kVln dcln pmln anln cdln ctln), slln⟩)
    (cln : PySem.W.codeIn K cdln "Columns.__len__" = true)
    (kln : PySem.W.keepIn K (.ref fln) = true)
    (ico : PySem.W.findIn K (.ref C) "__contains__" = some (some (.ref fco)))
    (fnco : PySem.W.isFn K (.ref fco) = true)
    (lco : K.lookup fco = some ⟨occo, odco, .func (PySem.W.fnOf "__contains__" "Columns.__contains__" (defArgs sIn) (defBody sIn) (defScope sIn) .none kVco dcco pmco anco cdco ctco), slco⟩)
    (cco : PySem.W.codeIn K cdco "Columns.__contains__" = true)
    (kco : PySem.W.keepIn K (.ref fco) = true)
    (itv : PySem.W.findIn K (.ref C) "told_values" = some (some (.ref ftv)))
    (fntv : PySem.W.isFn K (.ref ftv) = true)
    (ltv : K.lookup ftv = some ⟨octv, odtv, .func (PySem.W.fnOf "told_values" "Columns.told_values" (defArgs sTV) (defBody sTV) (defScope sTV) .none kVtv dctv pmtv antv cdtv cttv), sltv⟩)
    (ctv : PySem.W.codeIn K cdtv "Columns.told_values" = true)
    (ktv : PySem.W.keepIn K (.ref ftv) = true)
    (iir : PySem.W.findIn K (.ref C) "is_row" = some (some (.ref fir)))
    (fnir : PySem.W.isFn K (.ref fir) = true)
    (lir : K.lookup fir = some ⟨ocir, odir, .func (PySem.W.fnOf "is_row" "Columns.is_row" (defArgs sIsRow) (defBody sIsRow) (defScope sIsRow) .none kVir dcir pmir anir cdir ctir), slir⟩)
    (cir : PySem.W.codeIn K cdir "Columns.is_row" = true)
    (kir : PySem.W.keepIn K (.ref fir) = true)
    (ieq : PySem.W.findIn K (.ref C) "__eq__" = some (some (.ref feq)))
    (fneq : PySem.W.isFn K (.ref feq) = true)
    (leq : K.lookup feq = some ⟨oceq, odeq, .func (PySem.W.fnOf "__eq__" "Columns.__eq__" (defArgs sEq) (defBody sEq) (defScope sEq) .none kVeq dceq pmeq aneq cdeq cteq), sleq⟩)
    (ceq : PySem.W.codeIn K cdeq "Columns.__eq__" = true)
    (keq : PySem.W.keepIn K (.ref feq) = true)
    (aisW : PySem.W.nsIn K mainGlobals "is_word" = some (some (.ref fisW)))
    (lisW : K.lookup fisW = some ⟨ocisW, odisW, .func (PySem.W.fnOf "is_word" "is_word" (defArgs sIsW) (defBody sIsW) (defScope sIsW) .none kVisW dcisW pmisW anisW cdisW ctisW), slisW⟩)
    (cisW : PySem.W.codeIn K cdisW "is_word" = true)
    (kisW : PySem.W.keepIn K (.ref fisW) = true)
    (aisL : PySem.W.nsIn K mainGlobals "is_list" = some (some (.ref fisL)))
    (lisL : K.lookup fisL = some ⟨ocisL, odisL, .func (PySem.W.fnOf "is_list" "is_list" (defArgs sIsL) (defBody sIsL) (defScope sIsL) .none kVisL dcisL pmisL anisL cdisL ctisL), slisL⟩)
    (cisL : PySem.W.codeIn K cdisL "is_list" = true)
    (kisL : PySem.W.keepIn K (.ref fisL) = true)
    (aisN : PySem.W.nsIn K mainGlobals "_is_name" = some (some (.ref fisN)))
    (lisN : K.lookup fisN = some ⟨ocisN, odisN, .func (PySem.W.fnOf "_is_name" "_is_name" (defArgs sIsN) (defBody sIsN) (defScope sIsN) .none kVisN dcisN pmisN anisN cdisN ctisN), slisN⟩)
    (cisN : PySem.W.codeIn K cdisN "_is_name" = true)
    (kisN : PySem.W.keepIn K (.ref fisN) = true)
    (aare : PySem.W.nsIn K mainGlobals "_are_values" = some (some (.ref fare)))
    (lare : K.lookup fare = some ⟨ocare, odare, .func (PySem.W.fnOf "_are_values" "_are_values" (defArgs sAre) (defBody sAre) (defScope sAre) .none kVare dcare pmare anare cdare ctare), slare⟩)
    (care : PySem.W.codeIn K cdare "_are_values" = true)
    (kare : PySem.W.keepIn K (.ref fare) = true)
    (atold : PySem.W.nsIn K mainGlobals "_is_told" = some (some (.ref ftold)))
    (ltold : K.lookup ftold = some ⟨octold, odtold, .func (PySem.W.fnOf "_is_told" "_is_told" (defArgs sTold) (defBody sTold) (defScope sTold) .none kVtold dctold pmtold antold cdtold cttold), sltold⟩)
    (ctold : PySem.W.codeIn K cdtold "_is_told" = true)
    (ktold : PySem.W.keepIn K (.ref ftold) = true)
    (acan : PySem.W.nsIn K mainGlobals "can_stand" = some (some (.ref fcan)))
    (lcan : K.lookup fcan = some ⟨occan, odcan, .func (PySem.W.fnOf "can_stand" "can_stand" (defArgs sCan) (defBody sCan) (defScope sCan) .none kVcan dccan pmcan ancan cdcan ctcan), slcan⟩)
    (ccan : PySem.W.codeIn K cdcan "can_stand" = true)
    (kcan : PySem.W.keepIn K (.ref fcan) = true)
    (awo : PySem.W.nsIn K mainGlobals "_law_world" = some (some (.ref fwo)))
    (lwo : K.lookup fwo = some ⟨ocwo, odwo, .func (PySem.W.fnOf "_law_world" "_law_world" (defArgs sWorld) (defBody sWorld) (defScope sWorld) .none kVwo dcwo pmwo anwo cdwo ctwo), slwo⟩)
    (cwo : PySem.W.codeIn K cdwo "_law_world" = true)
    (kwo : PySem.W.keepIn K (.ref fwo) = true)
    (afr : PySem.W.nsIn K mainGlobals "_law_free_names" = some (some (.ref ffr)))
    (lfr : K.lookup ffr = some ⟨ocfr, odfr, .func (PySem.W.fnOf "_law_free_names" "_law_free_names" (defArgs sFree) (defBody sFree) (defScope sFree) .none kVfr dcfr pmfr anfr cdfr ctfr), slfr⟩)
    (cfr : PySem.W.codeIn K cdfr "_law_free_names" = true)
    (kfr : PySem.W.keepIn K (.ref ffr) = true)
    (ale : PySem.W.nsIn K mainGlobals "_law_letters" = some (some (.ref fle)))
    (lle : K.lookup fle = some ⟨ocle, odle, .func (PySem.W.fnOf "_law_letters" "_law_letters" (defArgs sLetters) (defBody sLetters) (defScope sLetters) .none kVle dcle pmle anle cdle ctle), slle⟩)
    (cle : PySem.W.codeIn K cdle "_law_letters" = true)
    (kle : PySem.W.keepIn K (.ref fle) = true)
    (aspr : PySem.W.nsIn K mainGlobals "_law_spare" = some (some (.ref fspr)))
    (lspr : K.lookup fspr = some ⟨ocspr, odspr, .func (PySem.W.fnOf "_law_spare" "_law_spare" (defArgs sSpare) (defBody sSpare) (defScope sSpare) .none kVspr dcspr pmspr anspr cdspr ctspr), slspr⟩)
    (cspr : PySem.W.codeIn K cdspr "_law_spare" = true)
    (kspr : PySem.W.keepIn K (.ref fspr) = true)
    (adraw : PySem.W.nsIn K mainGlobals "_law_draw" = some (some (.ref fdraw)))
    (ldraw : K.lookup fdraw = some ⟨ocdraw, oddraw, .func (PySem.W.fnOf "_law_draw" "_law_draw" (defArgs sDraw) (defBody sDraw) (defScope sDraw) .none kVdraw dcdraw pmdraw andraw cddraw ctdraw), sldraw⟩)
    (cdraw : PySem.W.codeIn K cddraw "_law_draw" = true)
    (kdraw : PySem.W.keepIn K (.ref fdraw) = true)
    (astart : PySem.W.nsIn K mainGlobals "_law_start" = some (some (.ref fstart)))
    (lstart : K.lookup fstart = some ⟨ocstart, odstart, .func (PySem.W.fnOf "_law_start" "_law_start" (defArgs sStart) (defBody sStart) (defScope sStart) .none kVstart dcstart pmstart anstart cdstart ctstart), slstart⟩)
    (cstart : PySem.W.codeIn K cdstart "_law_start" = true)
    (kstart : PySem.W.keepIn K (.ref fstart) = true)
    (apick : PySem.W.nsIn K mainGlobals "_law_pick" = some (some (.ref fpick)))
    (lpick : K.lookup fpick = some ⟨ocpick, odpick, .func (PySem.W.fnOf "_law_pick" "_law_pick" (defArgs sPick) (defBody sPick) (defScope sPick) .none kVpick dcpick pmpick anpick cdpick ctpick), slpick⟩)
    (cpick : PySem.W.codeIn K cdpick "_law_pick" = true)
    (kpick : PySem.W.keepIn K (.ref fpick) = true)
    (asame : PySem.W.nsIn K mainGlobals "_law_same" = some (some (.ref fsame)))
    (lsame : K.lookup fsame = some ⟨ocsame, odsame, .func (PySem.W.fnOf "_law_same" "_law_same" (defArgs sSame) (defBody sSame) (defScope sSame) .none kVsame dcsame pmsame ansame cdsame ctsame), slsame⟩)
    (csame : PySem.W.codeIn K cdsame "_law_same" = true)
    (ksame : PySem.W.keepIn K (.ref fsame) = true)
    (aword : PySem.W.nsIn K mainGlobals "_law_word" = some (some (.ref fword)))
    (lword : K.lookup fword = some ⟨ocword, odword, .func (PySem.W.fnOf "_law_word" "_law_word" (defArgs sWord) (defBody sWord) (defScope sWord) .none kVword dcword pmword anword cdword ctword), slword⟩)
    (cword : PySem.W.codeIn K cdword "_law_word" = true)
    (kword : PySem.W.keepIn K (.ref fword) = true)
    (awords : PySem.W.nsIn K mainGlobals "_law_words" = some (some (.ref fwords)))
    (lwords : K.lookup fwords = some ⟨ocwords, odwords, .func (PySem.W.fnOf "_law_words" "_law_words" (defArgs sWords) (defBody sWords) (defScope sWords) .none kVwords dcwords pmwords anwords cdwords ctwords), slwords⟩)
    (cwords : PySem.W.codeIn K cdwords "_law_words" = true)
    (kwords : PySem.W.keepIn K (.ref fwords) = true)
    (aodd : PySem.W.nsIn K mainGlobals "_law_odd_rows" = some (some (.ref fodd)))
    (lodd : K.lookup fodd = some ⟨ocodd, ododd, .func (PySem.W.fnOf "_law_odd_rows" "_law_odd_rows" (defArgs sOdd) (defBody sOdd) (defScope sOdd) .none kVodd dcodd pmodd anodd cdodd ctodd), slodd⟩)
    (codd : PySem.W.codeIn K cdodd "_law_odd_rows" = true)
    (kodd : PySem.W.keepIn K (.ref fodd) = true)
    (ashows : PySem.W.nsIn K mainGlobals "_law_shows" = some (some (.ref fshows)))
    (lshows : K.lookup fshows = some ⟨ocshows, odshows, .func (PySem.W.fnOf "_law_shows" "_law_shows" (defArgs sShows) (defBody sShows) (defScope sShows) .none kVshows dcshows pmshows anshows cdshows ctshows), slshows⟩)
    (cshows : PySem.W.codeIn K cdshows "_law_shows" = true)
    (kshows : PySem.W.keepIn K (.ref fshows) = true)
    (aalone : PySem.W.nsIn K mainGlobals "_law_is_alone" = some (some (.ref falone)))
    (lalone : K.lookup falone = some ⟨ocalone, odalone, .func (PySem.W.fnOf "_law_is_alone" "_law_is_alone" (defArgs sAlone) (defBody sAlone) (defScope sAlone) .none kValone dcalone pmalone analone cdalone ctalone), slalone⟩)
    (calone : PySem.W.codeIn K cdalone "_law_is_alone" = true)
    (kalone : PySem.W.keepIn K (.ref falone) = true)
    (alaw : PySem.W.nsIn K mainGlobals "law" = some (some (.ref flaw)))
    (llaw : K.lookup flaw = some ⟨oclaw, odlaw, .func (PySem.W.fnOf "law" "law" (defArgs sLaw) (defBody sLaw) (defScope sLaw) .none kVlaw dclaw pmlaw anlaw cdlaw ctlaw), sllaw⟩)
    (claw : PySem.W.codeIn K cdlaw "law" = true)
    (klaw : PySem.W.keepIn K (.ref flaw) = true)
    (gLE : PySem.W.nsIn K mainGlobals "LETTERS" = some (some (.str "abcdefghijklmnopqrstuvwxyz" tLE)))
    (gML : PySem.W.nsIn K mainGlobals "MOST_LETTERS" = some (some (.int 8 tML)))
    (gMV : PySem.W.nsIn K mainGlobals "MOST_VALUES" = some (some (.int 3 tMV)))
    (gMC : PySem.W.nsIn K mainGlobals "MOST_COLUMNS" = some (some (.int 3 tMC)))
    (gMF : PySem.W.nsIn K mainGlobals "MOST_FREE" = some (some (.int 2 tMF)))
    (z_len : PySem.W.nsIn K mainGlobals "len" = some none)
    (z_list : PySem.W.nsIn K mainGlobals "list" = some none)
    (z_tuple : PySem.W.nsIn K mainGlobals "tuple" = some none)
    (z_zip : PySem.W.nsIn K mainGlobals "zip" = some none)
    (z_enumerate : PySem.W.nsIn K mainGlobals "enumerate" = some none)
    (z_range : PySem.W.nsIn K mainGlobals "range" = some none)
    (z_any : PySem.W.nsIn K mainGlobals "any" = some none)
    (z_all : PySem.W.nsIn K mainGlobals "all" = some none)
    (z_isinstance : PySem.W.nsIn K mainGlobals "isinstance" = some none)
    (z_int : PySem.W.nsIn K mainGlobals "int" = some none)
    (z_str : PySem.W.nsIn K mainGlobals "str" = some none)
    (z_bool : PySem.W.nsIn K mainGlobals "bool" = some none)
    (z_dict : PySem.W.nsIn K mainGlobals "dict" = some none)
    (z_sum : PySem.W.nsIn K mainGlobals "sum" = some none)
    (z_set : PySem.W.nsIn K mainGlobals "set" = some none) :
    ∃ fd : FuncData, (∀ (s : Shared) (v : Value), BindsTo s fd ⟨[v], []⟩ [("_law_script", v)]) ∧ ∀ base : Heap, K.In base → base.Ns mainGlobals mg → FnOk l.prog w K mg base CX0 9 fa fd ["_law_script"] (spLaw K) := by
  have e := hfa.symm.trans (PySem.W.mg_of X G alaw)
  cases e
  have Fnm := fun_mk (st := sNames) lnm cnm knm
  have bnm := Fnm.binds (ps := ["self"]) fun _ _ _ _ _ _ us hl => match us, hl with | [_], _ => rfl
  have Fln := fun_mk (st := sLen) lln cln kln
  have bln := Fln.binds (ps := ["self"]) fun _ _ _ _ _ _ us hl => match us, hl with | [_], _ => rfl
  have Fco := fun_mk (st := sIn) lco cco kco
  have bco := Fco.binds (ps := ["self", "thing"]) fun _ _ _ _ _ _ us hl => match us, hl with | [_, _], _ => rfl
  have Ftv := fun_mk (st := sTV) ltv ctv ktv
  have btv := Ftv.binds (ps := ["self", "name"]) fun _ _ _ _ _ _ us hl => match us, hl with | [_, _], _ => rfl
  have Fir := fun_mk (st := sIsRow) lir cir kir
  have bir := Fir.binds (ps := ["self", "thing"]) fun _ _ _ _ _ _ us hl => match us, hl with | [_, _], _ => rfl
  have Feq := fun_mk (st := sEq) leq ceq keq
  have beq := Feq.binds (ps := ["self", "other"]) fun _ _ _ _ _ _ us hl => match us, hl with | [_, _], _ => rfl
  have FisW := fun_mk (st := sIsW) lisW cisW kisW
  have bisW := FisW.binds (ps := ["thing"]) fun _ _ _ _ _ _ us hl => match us, hl with | [_], _ => rfl
  have FisL := fun_mk (st := sIsL) lisL cisL kisL
  have bisL := FisL.binds (ps := ["thing"]) fun _ _ _ _ _ _ us hl => match us, hl with | [_], _ => rfl
  have FisN := fun_mk (st := sIsN) lisN cisN kisN
  have bisN := FisN.binds (ps := ["thing"]) fun _ _ _ _ _ _ us hl => match us, hl with | [_], _ => rfl
  have Fare := fun_mk (st := sAre) lare care kare
  have bare := Fare.binds (ps := ["thing"]) fun _ _ _ _ _ _ us hl => match us, hl with | [_], _ => rfl
  have Ftold := fun_mk (st := sTold) ltold ctold ktold
  have btold := Ftold.binds (ps := ["thing"]) fun _ _ _ _ _ _ us hl => match us, hl with | [_], _ => rfl
  have Fcan := fun_mk (st := sCan) lcan ccan kcan
  have bcan := Fcan.binds (ps := ["thing", "values"]) fun _ _ _ _ _ _ us hl => match us, hl with | [_, _], _ => rfl
  have Fwo := fun_mk (st := sWorld) lwo cwo kwo
  have bwo := Fwo.binds (ps := ["_law_stream", "_law_shapes"]) fun _ _ _ _ _ _ us hl => match us, hl with | [_, _], _ => rfl
  have Ffr := fun_mk (st := sFree) lfr cfr kfr
  have bfr := Ffr.binds (ps := ["_law_w"]) fun _ _ _ _ _ _ us hl => match us, hl with | [_], _ => rfl
  have Fle := fun_mk (st := sLetters) lle cle kle
  have ble := Fle.binds (ps := ["_law_w"]) fun _ _ _ _ _ _ us hl => match us, hl with | [_], _ => rfl
  have Fspr := fun_mk (st := sSpare) lspr cspr kspr
  have bspr := Fspr.binds (ps := ["_law_w"]) fun _ _ _ _ _ _ us hl => match us, hl with | [_], _ => rfl
  have Fdraw := fun_mk (st := sDraw) ldraw cdraw kdraw
  have bdraw := Fdraw.binds (ps := ["_law_stream", "_law_many"]) fun _ _ _ _ _ _ us hl => match us, hl with | [_, _], _ => rfl
  have Fstart := fun_mk (st := sStart) lstart cstart kstart
  have bstart := Fstart.binds (ps := ["_law_script"]) fun _ _ _ _ _ _ us hl => match us, hl with | [_], _ => rfl
  have Fpick := fun_mk (st := sPick) lpick cpick kpick
  have bpick := Fpick.binds (ps := ["_law_stream", "_law_some"]) fun _ _ _ _ _ _ us hl => match us, hl with | [_, _], _ => rfl
  have Fsame := fun_mk (st := sSame) lsame csame ksame
  have bsame := Fsame.binds (ps := ["_law_found", "_law_due"]) fun _ _ _ _ _ _ us hl => match us, hl with | [_, _], _ => rfl
  have Fword := fun_mk (st := sWord) lword cword kword
  have bword := Fword.binds (ps := ["_law_stream"]) fun _ _ _ _ _ _ us hl => match us, hl with | [_], _ => rfl
  have Fwords := fun_mk (st := sWords) lwords cwords kwords
  have bwords := Fwords.binds (ps := ["_law_stream", "_law_many"]) fun _ _ _ _ _ _ us hl => match us, hl with | [_, _], _ => rfl
  have Fodd := fun_mk (st := sOdd) lodd codd kodd
  have bodd := Fodd.binds (ps := ["_law_w"]) fun _ _ _ _ _ _ us hl => match us, hl with | [_], _ => rfl
  have Fshows := fun_mk (st := sShows) lshows cshows kshows
  have bshows := Fshows.binds (ps := ["_law_columns", "_law_w"]) fun _ _ _ _ _ _ us hl => match us, hl with | [_, _], _ => rfl
  have Falone := fun_mk (st := sAlone) lalone calone kalone
  have balone := Falone.binds (ps := ["_law_columns", "_law_w"]) fun _ _ _ _ _ _ us hl => match us, hl with | [_, _], _ => rfl
  have Flaw := fun_mk (st := sLaw) llaw claw klaw
  have y_len := PySem.W.mg_none_of X G z_len
  have y_list := PySem.W.mg_none_of X G z_list
  have y_tuple := PySem.W.mg_none_of X G z_tuple
  have y_zip := PySem.W.mg_none_of X G z_zip
  have y_enumerate := PySem.W.mg_none_of X G z_enumerate
  have y_range := PySem.W.mg_none_of X G z_range
  have y_any := PySem.W.mg_none_of X G z_any
  have y_all := PySem.W.mg_none_of X G z_all
  have y_isinstance := PySem.W.mg_none_of X G z_isinstance
  have y_int := PySem.W.mg_none_of X G z_int
  have y_str := PySem.W.mg_none_of X G z_str
  have y_bool := PySem.W.mg_none_of X G z_bool
  have y_dict := PySem.W.mg_none_of X G z_dict
  have y_sum := PySem.W.mg_none_of X G z_sum
  have y_set := PySem.W.mg_none_of X G z_set
  have FI : FunD K "__init__" "Columns.__init__" (defArgs sInit) (defBody sInit) (defScope sInit) [V.ref TE] [] fI (PySem.W.fnOf "__init__" "Columns.__init__" (defArgs sInit) (defBody sInit) (defScope sInit) (.ref TD) kVI dcI pmI anI cdI ctI) := ⟨⟨ocI, odI, .ref TD, kVI, dcI, pmI, anI, cdI, ctI, slI, rfl, lI, cI, .inr ⟨by simp, TD, _, [.ref TE], nT, rfl, lTD, rfl, .cons rfl .nil⟩, .inl rfl⟩, kfI⟩
  obtain ⟨dsI, vI, bI'⟩ := FI.binds1 (ps := ["self", "told", "free"]) 3 1 (by simp) rfl (fun T kV doc pm an cdv ct us its hl hl2 => match us, its, hl, hl2 with | [_, _, _], [_], _, _ => ⟨_, rfl, rfl⟩)
  have bI : Binds K (PySem.W.fnOf "__init__" "Columns.__init__" (defArgs sInit) (defBody sInit) (defScope sInit) (.ref TD) kVI dcI pmI anI cdI ctI) ["self", "told", "free"] [] := by
    cases vI
    exact bI'
  have cls : Cls K C := ⟨pg, hd, po, saC⟩
  have B : TxB mg := ⟨y_len, y_list, y_tuple, y_zip, y_enumerate, y_range, y_any, y_all, y_isinstance, y_int, y_str, y_bool, y_dict, y_sum, y_set⟩
  have oc : OwnC K C := ⟨fun e => .ins e cls clC gsC tkC moC, fun s hs => by
    simp only [List.mem_cons, List.not_mem_nil, or_false] at hs
    rcases hs with rfl | rfl | rfl | rfl | rfl | rfl | rfl
    · exact kit_no hd tyC kt0
    · exact kit_no hd tyC kt1
    · exact kit_no hd tyC kt2
    · exact kit_no hd tyC kt3
    · exact kit_no hd tyC kt4
    · exact kit_no hd tyC kt5
    · exact kit_no hd tyC kt6⟩
  refine ⟨PySem.W.fnOf "law" "law" (defArgs sLaw) (defBody sLaw) (defScope sLaw) .none kVlaw dclaw pmlaw anlaw cdlaw ctlaw, fun s v => .of_eq rfl, fun base _ _ => ?_⟩
  have hW : Fn l.prog w K mg base "is_word" 1 1 fIsW := ⟨_, _, _, okIsW FisW B (PySem.W.mg_of X G gLE) (PySem.W.mg_of X G gML), PySem.W.mg_of X G aisW, kisW, bisW⟩
  have hL : Fn l.prog w K mg base "is_list" 1 1 fIsL := ⟨_, _, _, okIsL FisL B, PySem.W.mg_of X G aisL, kisL, bisL⟩
  have hN : Fn l.prog w K mg base "_is_name" 2 1 fIsN := ⟨_, _, _, okIsN FisN B hW, PySem.W.mg_of X G aisN, kisN, bisN⟩
  have hA : Fn l.prog w K mg base "_are_values" 2 1 fAre := ⟨_, _, _, okAre Fare B (PySem.W.mg_of X G gMV) hW hL, PySem.W.mg_of X G aare, kare, bare⟩
  have hT : Fn l.prog w K mg base "_is_told" 3 1 fTold := ⟨_, _, _, okTold Ftold B hL hN hA, PySem.W.mg_of X G atold, ktold, btold⟩
  have hC : Fn l.prog w K mg base "can_stand" 2 2 fCan := ⟨_, _, _, okCan Fcan B hW, PySem.W.mg_of X G acan, kcan, bcan⟩
  have hM : Mkr l.prog w K mg base "Columns" C 4 (fInit C) := ⟨_, _, _, ⟨mkC, iC, fnI, kCC⟩, PySem.W.mg_of X G aC, okInit C FI B cls nVC (PySem.W.mg_of X G gMC) (PySem.W.mg_of X G gMF) hT hN, bI⟩
  have mN : MthO l.prog w K mg base C "names" 1 (fNames C) := ⟨_, _, _, cls, ⟨inm, fnnm, knm⟩, okNames C Fnm B cls nVC, bnm⟩
  have mL : Len l.prog w K mg base C 1 (fLen C) := ⟨_, _, _, ⟨iln, fnln⟩, okLen C Fln B cls nVC, bln⟩
  have mI : L2.Tr.Con l.prog w K mg base C 1 (fIn C) := ⟨_, _, _, ⟨ico, fnco⟩, okIn C Fco B cls nVC, bco⟩
  have mT : Mth l.prog w K mg base C "told_values" 2 (fTV C) := ⟨_, _, _, cls, ⟨itv, fntv, ktv⟩, okTV C Ftv B cls nVC mI, btv⟩
  have mR : Mth l.prog w K mg base C "is_row" 3 (fIsRow C) := ⟨_, _, _, cls, ⟨iir, fnir, kir⟩, okIsRow C Fir B cls nVC hL hC, bir⟩
  have mE : Eqr l.prog w K mg base C 1 (fEq C) := ⟨_, _, _, ⟨ieq, fneq, neC, moC⟩, okEq C Feq B cls nVC oc (PySem.W.mg_of X G aC), beq⟩
  have hSp : Fn l.prog w K mg base "_law_spare" 1 1 fSpare := ⟨_, _, _, okSpare Fspr B, PySem.W.mg_of X G aspr, kspr, bspr⟩
  have hLe : Fn l.prog w K mg base "_law_letters" 2 1 fLetters := ⟨_, _, _, okLetters Fle B hSp, PySem.W.mg_of X G ale, kle, ble⟩
  have hO : Fn l.prog w K mg base "_law_odd_rows" 2 1 fOdd := ⟨_, _, _, okOdd Fodd B hSp, PySem.W.mg_of X G aodd, kodd, bodd⟩
  have hF : Fn l.prog w K mg base "_law_free_names" 1 1 fFree := ⟨_, _, _, okFree Ffr B, PySem.W.mg_of X G afr, kfr, bfr⟩
  have hS : Fn l.prog w K mg base "_law_same" 4 2 (fSame (fSame (sameN 0))) := fn_mono (fn_same Fsame B (PySem.W.mg_of X G asame) ksame bsame 2) (by decide)
  have hSh : Fn l.prog w K mg base "_law_shows" 6 2 (fShows C (fNames C) (fTV C) (fIsRow C) (fLen C) (fIn C) (fSame (fSame (sameN 0)))) := fn_mono (j := 5) ⟨_, _, _, okShows C _ _ _ _ _ _ Fshows B mN mT mR mL mI hS hSp hLe hO, PySem.W.mg_of X G ashows, kshows, bshows⟩ (by decide)
  have hAl : Fn l.prog w K mg base "_law_is_alone" 6 2 (fAlone C (fInit C) (fEq C)) := ⟨_, _, _, okAlone C _ _ Falone B hM mE hSp hF, PySem.W.mg_of X G aalone, kalone, balone⟩
  have Gdr := ok_draw (P := l.prog) (w := w) (base := base) Fdraw ⟨y_int, y_list⟩
  have Gst := ok_start (P := l.prog) (w := w) (base := base) Fstart ⟨y_int, y_list⟩
  have Gpk := ok_pick (P := l.prog) (w := w) (base := base) Fpick y_len (PySem.W.mg_of X G adraw) kdraw Gdr bdraw
  have GpS := ok_pickS (P := l.prog) (w := w) (base := base) Fpick y_len (PySem.W.mg_of X G adraw) kdraw Gdr bdraw
  have Gwd := ok_word (P := l.prog) (w := w) (base := base) Fword y_range (PySem.W.mg_of X G adraw) kdraw Gdr bdraw (PySem.W.mg_of X G apick) kpick GpS bpick
  have Gws := ok_words (P := l.prog) (w := w) (base := base) Fwords B (PySem.W.mg_of X G aword) kword Gwd bword
  have Gwo := ok_world (P := l.prog) (w := w) (base := base) Fwo B (PySem.W.mg_of X G apick) kpick Gpk bpick (PySem.W.mg_of X G awords) kwords Gws bwords
  have GfO := okFreeO (P := l.prog) (w := w) (base := base) Ffr B
  exact ok_law Flaw B (PySem.W.mg_of X G astart) kstart Gst bstart (PySem.W.mg_of X G awo) kwo Gwo bwo (PySem.W.mg_of X G afr) kfr GfO bfr hM hSp hSh hAl (fun ps xs named hc hn hw => law_true (sameN 0) hc hn hw)
theorem walk {l : PySem.W.OpenLaw} {q : Program} {loose : List Str} {XP : (Str → Option Value) → Heap → Prop} {YP : World → Heap → Prop} {d : DefRec} {K : Params → PySem.W.Frag} (hn : l.most = some 63) (hdf : d.params.defaults = [])
    (hY : ∀ (w : World) (h : Heap), YP w h → (K w.params).In h)
    (F : ∀ (w : World) (mg : Str → Option Value) (fa : Addr) (h : Heap), (K w.params).In h → h.Ns mainGlobals mg → mg d.name = some (.ref fa) →
      ∃ fd : FuncData, (∀ (s : Shared) (u : Value), BindsTo s fd ⟨[u], []⟩ [("_law_script", u)]) ∧ ∀ base : Heap, (K w.params).In base → base.Ns mainGlobals mg → FnOk l.prog w (K w.params) mg base CX0 9 fa fd ["_law_script"] (spLaw (K w.params))) :
    PySem.W.WalkO q loose XP YP l.row.toRowW d [] (fun f vs => PySem.call f vs) :=
  L2.walk_of (n := 63) (k := 9) (x := "_law_script") (CX := fun _ => CX0) (sp := fun w => spLaw (K w.params)) hn (by decide) hdf ⟨rfl, by decide, by decide⟩ hY F (fun _ _ a ns hl _ hS => ⟨a, ns, rfl, hS, fun _ => rfl⟩) fun _ _ _ _ _ z => z
end L2.K1

open PySem PySem.W PyProof.Rows
set_option maxRecDepth 100000 in
set_option maxHeartbeats 0 in
theorem PySem.Challenge.cw_toldthere_k01_columns_told_holds : PySem.Challenge.rw_toldthere_k01_columns_told.Holds := by
  w_on; o_law; k_head; (case hw => w_witness2)
  k_fill
  refine L2.K1.walk (l := PySem.Challenge.rw_toldthere_k01_columns_told) rfl rfl (fun w h Y => PySem.W.kIn_of Y) ?F
  case F =>
    intro w mg fa h KX G hmg
    refine' L2.K1.all_mk KX G hmg ?aC ?pg ?hd ?po ?saC ?nVC ?mkC ?kCC ?clC ?gsC ?tkC ?moC ?neC ?tyC ?kt0 ?kt1 ?kt2 ?kt3 ?kt4 ?kt5 ?kt6 ?iC ?fnI ?lI ?cI ?kfI ?lTD ?inm ?fnnm ?lnm ?cnm ?knm ?iln ?fnln ?lln ?cln ?kln ?ico ?fnco ?lco ?cco ?kco ?itv ?fntv ?ltv ?ctv ?ktv ?iir ?fnir ?lir ?cir ?kir ?ieq ?fneq ?leq ?ceq ?keq ?aisW ?lisW ?cisW ?kisW ?aisL ?lisL ?cisL ?kisL ?aisN ?lisN ?cisN ?kisN ?aare ?lare ?care ?kare ?atold ?ltold ?ctold ?ktold ?acan ?lcan ?ccan ?kcan ?awo ?lwo ?cwo ?kwo ?afr ?lfr ?cfr ?kfr ?ale ?lle ?cle ?kle ?aspr ?lspr ?cspr ?kspr ?adraw ?ldraw ?cdraw ?kdraw ?astart ?lstart ?cstart ?kstart ?apick ?lpick ?cpick ?kpick ?asame ?lsame ?csame ?ksame ?aword ?lword ?cword ?kword ?awords ?lwords ?cwords ?kwords ?aodd ?lodd ?codd ?kodd ?ashows ?lshows ?cshows ?kshows ?aalone ?lalone ?calone ?kalone ?alaw ?llaw ?claw ?klaw ?gLE ?gML ?gMV ?gMC ?gMF ?z_len ?z_list ?z_tuple ?z_zip ?z_enumerate ?z_range ?z_any ?z_all ?z_isinstance ?z_int ?z_str ?z_bool ?z_dict ?z_sum ?z_set
    (case aC => k_is)
    (case pg => k_is)
    (case hd => k_is)
    (case po => k_is)
    (case saC => k_is)
    (case nVC => k_is)
    (case mkC => k_is)
    (case kCC => k_is)
    (case clC => k_is)
    (case gsC => k_is)
    (case tkC => k_is)
    (case moC => k_is)
    (case neC => k_is)
    (case tyC => k_is)
    (case kt0 => first | k_is | rfl | (with_unfolding_all rfl))
    (case kt1 => first | k_is | rfl | (with_unfolding_all rfl))
    (case kt2 => first | k_is | rfl | (with_unfolding_all rfl))
    (case kt3 => first | k_is | rfl | (with_unfolding_all rfl))
    (case kt4 => first | k_is | rfl | (with_unfolding_all rfl))
    (case kt5 => first | k_is | rfl | (with_unfolding_all rfl))
    (case kt6 => first | k_is | rfl | (with_unfolding_all rfl))
    (case iC => k_is)
    (case fnI => k_is)
    (case lI => k_is)
    (case cI => k_is)
    (case kfI => k_is)
    (case lTD => k_is)
    (case inm => k_is)
    (case fnnm => k_is)
    (case lnm => k_is)
    (case cnm => k_is)
    (case knm => k_is)
    (case iln => k_is)
    (case fnln => k_is)
    (case lln => k_is)
    (case cln => k_is)
    (case kln => k_is)
    (case ico => k_is)
    (case fnco => k_is)
    (case lco => k_is)
    (case cco => k_is)
    (case kco => k_is)
    (case itv => k_is)
    (case fntv => k_is)
    (case ltv => k_is)
    (case ctv => k_is)
    (case ktv => k_is)
    (case iir => k_is)
    (case fnir => k_is)
    (case lir => k_is)
    (case cir => k_is)
    (case kir => k_is)
    (case ieq => k_is)
    (case fneq => k_is)
    (case leq => k_is)
    (case ceq => k_is)
    (case keq => k_is)
    (case aisW => k_is)
    (case lisW => k_is)
    (case cisW => k_is)
    (case kisW => k_is)
    (case aisL => k_is)
    (case lisL => k_is)
    (case cisL => k_is)
    (case kisL => k_is)
    (case aisN => k_is)
    (case lisN => k_is)
    (case cisN => k_is)
    (case kisN => k_is)
    (case aare => k_is)
    (case lare => k_is)
    (case care => k_is)
    (case kare => k_is)
    (case atold => k_is)
    (case ltold => k_is)
    (case ctold => k_is)
    (case ktold => k_is)
    (case acan => k_is)
    (case lcan => k_is)
    (case ccan => k_is)
    (case kcan => k_is)
    (case awo => k_is)
    (case lwo => k_is)
    (case cwo => k_is)
    (case kwo => k_is)
    (case afr => k_is)
    (case lfr => k_is)
    (case cfr => k_is)
    (case kfr => k_is)
    (case ale => k_is)
    (case lle => k_is)
    (case cle => k_is)
    (case kle => k_is)
    (case aspr => k_is)
    (case lspr => k_is)
    (case cspr => k_is)
    (case kspr => k_is)
    (case adraw => k_is)
    (case ldraw => k_is)
    (case cdraw => k_is)
    (case kdraw => k_is)
    (case astart => k_is)
    (case lstart => k_is)
    (case cstart => k_is)
    (case kstart => k_is)
    (case apick => k_is)
    (case lpick => k_is)
    (case cpick => k_is)
    (case kpick => k_is)
    (case asame => k_is)
    (case lsame => k_is)
    (case csame => k_is)
    (case ksame => k_is)
    (case aword => k_is)
    (case lword => k_is)
    (case cword => k_is)
    (case kword => k_is)
    (case awords => k_is)
    (case lwords => k_is)
    (case cwords => k_is)
    (case kwords => k_is)
    (case aodd => k_is)
    (case lodd => k_is)
    (case codd => k_is)
    (case kodd => k_is)
    (case ashows => k_is)
    (case lshows => k_is)
    (case cshows => k_is)
    (case kshows => k_is)
    (case aalone => k_is)
    (case lalone => k_is)
    (case calone => k_is)
    (case kalone => k_is)
    (case alaw => k_is)
    (case llaw => k_is)
    (case claw => k_is)
    (case klaw => k_is)
    (case gLE => k_is)
    (case gML => k_is)
    (case gMV => k_is)
    (case gMC => k_is)
    (case gMF => k_is)
    (case z_len => k_is)
    (case z_list => k_is)
    (case z_tuple => k_is)
    (case z_zip => k_is)
    (case z_enumerate => k_is)
    (case z_range => k_is)
    (case z_any => k_is)
    (case z_all => k_is)
    (case z_isinstance => k_is)
    (case z_int => k_is)
    (case z_str => k_is)
    (case z_bool => k_is)
    (case z_dict => k_is)
    (case z_sum => k_is)
    (case z_set => k_is)

