import PyProof.Rows.All
import Wide.All
import OpenK.AllK
import Wide.FinOn
import HandS.ForMost
import HandS.Exc
import HandS.ExcInit
import HandS.IsInst
import HandS.Defaults
import HandS.DictEq
import HandS.OwnEq
import HandS.Zip
import HandS.Walk
import HandS.Codes
import HandS.Strs
import KE.KExcIs
import KE.KEqSeq
import KE.GoesEnum
import KE.GoesMore
import HandS.SetFor
import PyProof.Rows.SortStr
import HandS.Style
import HandS.More
import HandS.Conv
import HandS.Flow
import HandS.TupAny
import HandS.Steps
import HandS.ForExc
import HandS.Words
import HandS.ListItems
import HandS.SlotsOwn
import HandS.SortKw
import KE.SortKeyHeap
import KE.SortData
import KE.KDictSum
import HandS.SortInts
import HandS.MakeKwOnly
import HandS.DictComp
import HandS.DeepEq
import KE.KIntText
import PyProof.StrOps2
import HandS.Star
import HandS.TryOnly
import PySem.Challenge.RW_toldthere_k08_statements_alike
import HandS.Lambda
import HandS.TryMany
import HandS.ExcField
import HandS.Finally
import HandS.StrMore
import KE.KDictZip
import PyProof.ListNew
import PyProof.CollectWalk
import PyProof.StrLawsAffix
set_option Elab.async false
set_option linter.all false
set_option maxRecDepth 100000
set_option maxHeartbeats 4000000
namespace Vs
open PySem PySem.Spec PyProof.Rows SS
/-- which of the first i texts stand there -/
abbrev seen (xs : List Str) (i : Nat) : Str → Bool := fun y => (xs.take i).any (· == y)
/-- how many different ones -/
def dcn (xs : List Str) : Nat → Nat
  | 0 => 0
  | i + 1 => if seen xs i (xs.getD i Str.empty) = true then dcn xs i else dcn xs i + 1
theorem dcn_le (xs : List Str) : ∀ i, dcn xs i ≤ i
  | 0 => Nat.le_refl _
  | i + 1 => by
    have := dcn_le xs i
    unfold dcn
    split <;> omega
theorem getD_at {xs : List Str} {i : Nat} (h : i < xs.length) : xs[i]? = some (xs.getD i Str.empty) := by
  rw [List.getD_eq_getElem?_getD, List.getElem?_eq_getElem h]
  rfl
theorem take_one : ∀ {l : List Str} {i : Nat} {x : Str}, l[i]? = some x → l.take (i + 1) = l.take i ++ [x]
  | [], i, x, h => by simp at h
  | a :: l, 0, x, h => by
    have e : a = x := Option.some.inj h
    rw [e]; rfl
  | a :: l, i + 1, x, h => by
    have ih := take_one (l := l) (i := i) (x := x) h
    rw [List.take_succ_cons, ih]; rfl
theorem seen_next {xs : List Str} {i : Nat} (h : i < xs.length) (y : Str) : seen xs (i + 1) y = (seen xs i y || decide (y = xs.getD i Str.empty)) := by
  unfold seen
  rw [take_one (getD_at h), List.any_append]
  congr 1
  by_cases e : y = xs.getD i Str.empty
  · rw [decide_eq_true e, e]; simp
  · rw [decide_eq_false e]
    have : (xs.getD i Str.empty == y) = false := by simpa using fun z => e z.symm
    simp only [List.any_cons, List.any_nil, Bool.or_false]
    exact this
section
variable {prog : Program} {w : World} {A : Around} {R : Result → Shared → Prop} {J : Addr} {fp wr : List Addr} {G : Array GenState → Array GenState → Prop} {n : Nat} {Pi : Nat → Value → Prop} {St : Nat → Shared → Prop}
theorem fill (W : WalksS prog w A.in1 J fp wr G n Pi St) (a : Addr) (na : a ∉ fp) (xs : List Str) (hz : xs.length = n) (hb : n + 1 < scanBound) (hv : ∀ i v, Pi i v → ∃ t, v = .str (xs.getD i Str.empty) t) :
    ∀ (k i : Nat) (s : Shared), n - i = k → i ≤ n → St i s → s.heap.SetOf (PySem.strKind prog w) a (seen xs i) (dcn xs i) →
      (∀ s', Moved (a :: wr) G s s' → s'.heap.SetOf (PySem.strKind prog w) a (seen xs n) (dcn xs n) → R (.ok (.ret .none)) s') → codeAny (model prog w) A (.builtin "set.update.loop" ⟨[.ref a, .ref J], []⟩) R s := by
  have nw : a ∉ wr := fun q => na (W.sub _ q)
  have up : ∀ b ∈ wr, b ∈ a :: wr := fun b q => List.mem_cons_of_mem _ q
  intro k
  induction k with
  | zero =>
    intro i s hk hi st gS hR
    obtain rfl : i = n := by omega
    refine codeAny_builtin PyProof.Rows.F.entry_set_update_loop ?_
    rw [Around.under_plainId PyProof.Rows.F.plain_set_update_loop _]
    show wpAny _ A.in1 (pyNext (.ref J) >>= _) _ _ s
    refine wpAny_bind (W.done s _ _ st fun s' mv => ?_)
    show wpAny _ A.in1 (ret Value.none) _ _ s'
    obtain ⟨o, es, ep, t, ho, r⟩ := gS
    exact wpAny_pure (hR s' (mv.mono up) ⟨o, es, ep, t, mv.heap a _ nw ho, r⟩)
  | succ k ih =>
    intro i s hk hi st gS hR
    have lt : i < n := by omega
    refine codeAny_builtin PyProof.Rows.F.entry_set_update_loop ?_
    rw [Around.under_plainId PyProof.Rows.F.plain_set_update_loop _]
    show wpAny _ A.in1 (pyNext (.ref J) >>= _) _ _ s
    refine wpAny_bind (W.item i s _ _ lt st fun v s' pv st' mv => ?_)
    obtain ⟨t, rfl⟩ := hv i v pv
    have gS1 : s'.heap.SetOf (PySem.strKind prog w) a (seen xs i) (dcn xs i) := by
      obtain ⟨o, es, ep, tb, ho, r⟩ := gS
      exact ⟨o, es, ep, tb, mv.heap a _ nw ho, r⟩
    show wpAny _ A.in1 (holding [Value.str (xs.getD i Str.empty) t] (setAdd a (.str (xs.getD i Str.empty) t)) >>= _) _ _ s'
    refine wpAny_bind (wpAny_holding ?_)
    unfold setAdd
    refine wpAny_holding (wpAny_bind ((PySem.strKind prog w).pyHash (k := xs.getD i Str.empty) (strKind_is _ _ _ _) ?_))
    have rm : dcn xs i + 1 < scanBound := by have := dcn_le xs i; omega
    refine wpAny_setAddHashed_of (knd := PySem.strKind prog w) (s := { s' with toks := s'.toks + 1 }) (strKind_is _ _ _ _) rfl gS1 rm fun h' sb gS2 => ?_
    have gS3 : h'.SetOf (PySem.strKind prog w) a (seen xs (i + 1)) (dcn xs (i + 1)) := SetOf_congr gS2 (fun y => (seen_next (by omega) y).symm) rfl
    refine wpAny_pure ⟨plainId_quiet PyProof.Rows.F.plain_set_update_loop _, ih (i + 1) _ (by omega) lt (W.frame _ s' _ _ st' (Nat.le_succ _) fun b q o e => ?_) gS3 fun s2 mv2 gS4 => ?_⟩
    · rw [sb.2 b (fun z : b = a => na (by rw [← z]; exact q))]; exact e
    · refine hR s2 (Moved.trans W.gtrans ((mv.mono up).then_heap (Nat.le_succ _) fun b o q e => ?_) mv2) gS4
      rw [sb.2 b (fun z : b = a => q (by rw [z]; exact List.mem_cons_self))]; exact e
end
abbrev newSet (led : Bool) : Obj := { cls := .type "set", dict := none, data := .set #[] 0 (.fresh 0 0 led) }
section
variable {prog : Program} {w : World} {A : Around} {E : Value → Shared → Prop} {s : Shared}
/-- set(v) of a list or a tuple of texts: T its class, oi what its iterator is -/
theorem call_set {T : String} {oi : Obj} {l : Addr} {items : Array Value} {xs : List Str} {Q : Value → Shared → Prop} {Hl : Heap → Prop} {Si : Addr → Nat → Heap → Prop} (hl : Hl s.heap) (B : Begins (.ref l) oi Hl) (hT : ∀ h, Hl h → ∃ o, h.get? l = some o ∧ o.cls = .type T)
    (s1 : isSubtype (.type T) (.type "set") = pure false) (s2 : isSubtype (.type T) (.type "frozenset") = pure false) (ne : (Value.type T == Value.type "dict") = false) (ndc : T ≠ "dict")
    (W : ∀ J, l ≠ J → Walks prog w A.in1.in1.in1 J [J, l] [J] items.size (fun i v => items[i]? = some v) (Si J)) (S0 : ∀ h J, h.get? J = some oi → Hl h → Si J 0 h)
    (hi : StrsAre items.toList xs) (hb : xs.length + 1 < scanBound)
    (h : ∀ (h' : Heap) (tk : Nat), h'.SetOf (PySem.strKind prog w) s.heap.objs.size (seen xs xs.length) (dcn xs xs.length) → (∀ b o, b < s.heap.objs.size → s.heap.get? b = some o → h'.get? b = some o) → Q (.ref s.heap.objs.size) { s with heap := h', toks := tk }) :
    wpAny (model prog w) A (call (.type "set") [.ref l]) Q E s := by
  obtain ⟨c, tl, hmro⟩ := PySem.F.called_set.mro
  have z1 := PySem.F.called_set.made
  have z2 := PySem.F.called_set.sub
  refine wpAny_call (codeAny_of_tree ?_)
  show wpAny _ _ (callAny (.type "set") _) _ _ _
  refine wpAny_pure ⟨Code.quiet_builtin _ (by decide +kernel), codeAny_builtin PySem.F.entry_type_call ?_⟩
  rw [Around.under_plain (weight_type_call_type "set" [.ref l] []) rfl]
  have z3 := PySem.F.called_set.notType
  have z4 := PySem.F.called_set.canCreate
  have z5 := PySem.F.typeCall_set_1 (.ref l)
  repeat (any_goals (first | assumption | wp_step))
  refine codeAny_mono (code_set_new_1 (.ref l) (E := E) (Q₁ := fun ob t => ∃ led : Bool, ob = .ref s.heap.objs.size ∧ t = { s with heap := s.heap.push (newSet led) }) fun led => ⟨led, rfl, rfl⟩) fun r t hr => ?_
  cases r with
  | error e => exact hr
  | ok fl =>
    cases fl with
    | next => exact hr.elim
    | brk => exact hr.elim
    | cont => exact hr.elim
    | ret ob =>
      obtain ⟨led, rfl, rfl⟩ := hr
      have gA : (s.heap.push (newSet led)).get? s.heap.objs.size = some (newSet led) := Heap.get?_push_size _ rfl
      have tA : Shared.TypeIs { s with heap := s.heap.push (newSet led) } (.ref s.heap.objs.size) "set" := ⟨_, gA, rfl⟩
      have z6 := PySem.F.called_set.init.lookup
      have z7 := PySem.F.called_set.init.bind (.ref s.heap.objs.size)
      repeat (any_goals (first | assumption | wp_step))
      refine codeAny_mono (codeAny_call_builtin (R := wants (fun r t => r = .none ∧ ∃ h' tk, t = { s with heap := h', toks := tk } ∧ h'.SetOf (PySem.strKind prog w) s.heap.objs.size (seen xs xs.length) (dcn xs xs.length) ∧
          (∀ b o, b < s.heap.objs.size → s.heap.get? b = some o → h'.get? b = some o)) E) PySem.F.called_set.init.plain PySem.F.entry_set_init (check_set_init_1 tA ?_)) fun r2 t2 hr2 => ?_
      · have hl1 : Hl (s.heap.push (newSet led)) := B.keeps _ _ hl fun b o e => Heap.get?_push_of_some _ e
        obtain ⟨ol, hol, hcl⟩ := hT _ hl
        have hol1 : (s.heap.push (newSet led)).get? l = some ol := Heap.get?_push_of_some _ hol
        have tL : Shared.TypeIs { s with heap := s.heap.push (newSet led) } (.ref l) T := ⟨_, hol1, hcl⟩
        unfold Builtin.«set.__init__» noKeywords Builtin.Frozenset.updateFrom
        generalize hPI : pyIter = PI
        wp_walk
        subst hPI
        refine B.iter _ _ _ _ _ _ hl1 ?_
        refine wpAny_bind (wpAny_runValue ?_)
        have ll : l < s.heap.objs.size := Heap.lt_size hol
        have zJ : (s.heap.push (newSet led)).objs.size = s.heap.objs.size + 1 := Heap.size_push ..
        have nJ : l ≠ (s.heap.push (newSet led)).objs.size := by rw [zJ]; exact Nat.ne_of_lt (Nat.lt_succ_of_lt ll)
        have nA : s.heap.objs.size ∉ [(s.heap.push (newSet led)).objs.size, l] := by
          rw [zJ]
          simp only [List.mem_cons, List.not_mem_nil, or_false, not_or]
          exact ⟨Nat.ne_of_lt (Nat.lt_succ_self _), Nat.ne_of_gt ll⟩
        have hz : xs.length = items.size := by rw [← StrsAre.len_eq hi, Array.length_toList]
        have hl2 : Hl ((s.heap.push (newSet led)).push oi) := B.keeps _ _ hl1 fun b o e => Heap.get?_push_of_some _ e
        have gA2 : ((s.heap.push (newSet led)).push oi).get? s.heap.objs.size = some (newSet led) := Heap.get?_push_of_some _ gA
        refine fill ((W _ nJ).toS) s.heap.objs.size nA xs hz (by rw [← hz]; exact hb) (fun i v hv => strs_at hi i v (by rw [Array.getElem?_toList]; exact hv)) (items.size - 0) 0 _ (by omega) (Nat.zero_le _)
          (S0 _ _ (Heap.get?_push_size _ B.free) hl2) (SetOf_congr ((setObjOf_fresh (knd := PySem.strKind prog w) led).setOf gA2 (by unfold scanBound; omega)) (fun _ => rfl) rfl) fun s' mv gS => ?_
        obtain ⟨h', g', d', tk', os'⟩ := s'
        obtain rfl : g' = s.gens := mv.gens
        obtain rfl : d' = s.drawn := mv.drawn
        obtain rfl : os' = s.os := mv.os
        show wpAny _ _ _ _ _ _
        refine wpAny_pure ?_
        show wpAny _ _ (ret Value.none) _ _ _
        rw [← hz] at gS
        refine wpAny_pure ⟨rfl, h', tk', rfl, gS, fun b o q e => ?_⟩
        have b1 : b ≠ s.heap.objs.size := Nat.ne_of_lt q
        have b2 : b ≠ (s.heap.push (newSet led)).objs.size := by rw [zJ]; exact Nat.ne_of_lt (Nat.lt_succ_of_lt q)
        exact mv.heap b o (by simp only [List.mem_cons, List.not_mem_nil, or_false, not_or]; exact ⟨b1, b2⟩) (Heap.get?_push_of_some _ (Heap.get?_push_of_some _ e))
      · cases r2 with
        | error e => exact hr2
        | ok fl2 =>
          cases fl2 with
          | next => exact hr2.elim
          | brk => exact hr2.elim
          | cont => exact hr2.elim
          | ret r =>
            obtain ⟨rfl, h', tk, rfl, gS, kp⟩ := hr2
            repeat (any_goals (first | assumption | wp_step))
            exact h _ _ gS kp
end
/-! ### what the number of different texts tells -/
theorem dcn_nodup {xs : List Str} : ∀ {i : Nat}, i ≤ xs.length → (dcn xs i = i ↔ (xs.take i).Nodup)
  | 0, _ => by simp [dcn]
  | i + 1, h => by
    have ih := dcn_nodup (xs := xs) (i := i) (by omega)
    have le := dcn_le xs i
    have lt : i < xs.length := by omega
    rw [take_one (getD_at lt), List.nodup_append]
    unfold dcn
    by_cases q : seen xs i (xs.getD i Str.empty) = true
    · rw [if_pos q]
      have mem : xs.getD i Str.empty ∈ xs.take i := by
        obtain ⟨y, hy, e⟩ := List.any_eq_true.mp q
        have : y = xs.getD i Str.empty := by simpa using e
        rw [← this]; exact hy
      constructor
      · intro z; omega
      · intro z; exact absurd rfl (z.2.2 _ mem _ (by simp))
    · rw [if_neg q]
      have nmem : xs.getD i Str.empty ∉ xs.take i := fun hm => q (List.any_eq_true.mpr ⟨_, hm, by simp⟩)
      constructor
      · intro z
        refine ⟨ih.mp (by omega), by simp, fun a ha b hb e => ?_⟩
        have : b = xs.getD i Str.empty := by simpa using hb
        rw [e, this] at ha
        exact nmem ha
      · intro z
        have := ih.mpr z.1
        omega
end Vs
namespace L2.Vs
open PySem PySem.Spec PyProof.Rows _root_.Vs
/-- len(set(xs)), xs a list or tuple of some texts -/
def tLenS (K : PySem.W.Frag) (ta : TE) : TE := fun σ H Q => ta σ H fun x H1 => ∃ l, ∃ xs : List Str, x = .ref l ∧ (SqL K H1 l (xs.map V.str) ∨ SqT K H1 l (xs.map V.str)) ∧ xs.length ≤ 100 ∧ Q (.int (dcn xs xs.length)) H1
theorem pe_lenS {X : Cx} {a : Expr} {ta : TE} {p p2 q pos : Pos} (hc : X.calm = true) (hg : Gl X "len") (hm : X.mg "len" = none) (hg2 : Gl X "set") (hm2 : X.mg "set" = none) (ha : PE X a ta)
    (na : starEach [a] X.env = (false, eval a X.env) :: starEach [] X.env := by rfl) : PE X (.Call (.Name "len" p) [.Call (.Name "set" p2) [a] [] q] [] pos) (tLenS X.K ta) := by
  refine ⟨fun pins s σ H Q I h => ?_⟩
  refine Call_ (ld_blt I hg hm boot_len (PyProof.Rows.callWith_builtin1 (PyProof.Rows.args_cons ?_ rfl) rfl rfl))
  refine Call_ (ld_blt I hg2 hm2 boot_set (PyProof.Rows.callWith_type1 (PyProof.Rows.args_cons (thn (ha.run pins s σ H _ I h) fun v s1 ⟨x, H1, J, r1, q1⟩ => PyProof.Rows.args_nil ?_) na) na rfl))
  obtain ⟨l, xs, rfl, hq, hn, q1⟩ := q1
  obtain rfl : v = Value.ref l := r1
  have hh := J.ok.hd hc
  have sc : xs.length + 1 < scanBound := by unfold scanBound; omega
  have fin : ∀ (h' : Heap) (tk : Nat), h'.SetOf (PySem.strKind X.prog X.w) s1.heap.objs.size (seen xs xs.length) (dcn xs xs.length) → (∀ b o, b < s1.heap.objs.size → s1.heap.get? b = some o → h'.get? b = some o) →
      wpAny (model X.prog X.w) X.A (spliced (backTo pos (starEach [] X.env))) (fun vs s₂ => wpAny (model X.prog X.w) X.A (call (.builtin "len") (Value.ref s1.heap.objs.size :: vs)) (EP X pins σ Q) X.xe s₂) X.xe { s1 with heap := h', toks := tk } := fun h' tk gS kp => by
    refine PyProof.Rows.args_nil ?_
    have ld := dcn_le xs xs.length
    obtain ⟨o, es, ep, t, ho, hex, hd, _, _, _, hf, hnn⟩ := gS
    have J2 : Inv X pins σ H1 { s1 with heap := h', toks := tk } := J.kept fun b o e => kp b o (Heap.lt_size e) e
    exact call_len_set ho hex hd hf (by rw [hnn]; omega) ⟨.int (dcn xs xs.length), H1, J2.tok _, ⟨_, by rw [hnn]⟩, q1⟩
  rcases hq with hq | hq
  · obtain ⟨its, r, pl, hz⟩ := J.list hq
    refine call_set (T := "list") (items := its.toArray) (Si := fun J i h => h.IsListIter J l i ∧ h.IsList l its.toArray) (Hl := fun h => h.IsList l its.toArray) pl.isList (begins_list l its.toArray) (fun h z => let ⟨o, ho, hc, _⟩ := z; ⟨o, ho, hc⟩) PySem.F.sub_list_set PySem.F.sub_list_frozenset (by decide) (by decide)
      (fun J' ne => Walks.list (show X.A.in1.in1.in1.handled = none from hh) J' l ne its.toArray) (fun h J' e z => ⟨⟨_, e, rfl, rfl⟩, z⟩) (by simpa using strsAre_of r) sc fin
  · obtain ⟨its, r, pl, hz⟩ := J.tuple hq
    refine call_set (T := "tuple") (items := its.toArray) (Si := fun J i h => h.IsTupleIter J l i ∧ h.IsTuple l its.toArray) (Hl := fun h => h.IsTuple l its.toArray) pl (begins_tuple l its.toArray) (fun h z => let ⟨o, ho, hc, _⟩ := z; ⟨o, ho, hc⟩) PySem.F.sub_tuple_set PySem.F.sub_tuple_frozenset (by decide) (by decide)
      (fun J' ne => Walks.tuple (show X.A.in1.in1.in1.handled = none from hh) J' l ne its.toArray) (fun h J' e z => ⟨⟨_, e, rfl, rfl⟩, z⟩) (by simpa using strsAre_of r) sc fin
end L2.Vs

/-! sets of texts that can be walked: set(texts), sorted(set(texts)). -/
namespace Vz
open PySem PySem.Spec PyProof.Rows L2 SS
def txt (e : Int × Value) : Str := strOf e.2
def Ent (P : Program) (w : World) (e : Int × Value) : Prop := ∃ x t, e.2 = Value.str x t ∧ e.1 = (strKind P w).hash x
structure TSet (P : Program) (w : World) (h : Heap) (a : Addr) (S : Str → Bool) (n : Nat) (o : Obj) (es : Array (Int × Value)) (ep : Nat) (t : SetTable) : Prop where
  at_ : h.get? a = some o
  ex : o.ExactSet
  d : o.data = .set es ep t
  g : ∀ e ∈ es.toList, Ent P w e
  nd : (es.toList.map txt).Nodup
  m : ∀ x, S x = true ↔ x ∈ es.toList.map txt
  few : es.size < scanBound
  fit : t.fits es.size = true
  n : es.size = n
  r : Ris t.place.toList
  l : w.params.followText "set-order" = true ∨ t.led = true
def IsTS (P : Program) (w : World) (h : Heap) (a : Addr) (S : Str → Bool) (n : Nat) : Prop := ∃ o es ep t, TSet P w h a S n o es ep t
section
variable {P : Program} {w : World} {h h' : Heap} {a : Addr} {S : Str → Bool} {n : Nat}
theorem IsTS.at (R : IsTS P w h a S n) (k : ∀ o, h.get? a = some o → h'.get? a = some o) : IsTS P w h' a S n := by
  obtain ⟨o, es, ep, t, r⟩ := R
  exact ⟨o, es, ep, t, ⟨k o r.at_, r.ex, r.d, r.g, r.nd, r.m, r.few, r.fit, r.n, r.r, r.l⟩⟩
theorem IsTS.cg {S' : Str → Bool} {n' : Nat} (R : IsTS P w h a S n) (e : ∀ x, S x = S' x) (f : n = n') : IsTS P w h a S' n' := by
  obtain rfl : S = S' := funext e
  obtain rfl := f
  exact R
theorem ent_is {e : Int × Value} (g : Ent P w e) (x : Str) : (strKind P w).is x e.2 = true ↔ txt e = x := by
  obtain ⟨y, t, h1, _⟩ := g
  unfold txt
  rw [h1]
  constructor
  · intro z
    exact (strKind P w).inj _ _ _ (strKind_is P w y t) z
  · intro z
    rw [← z]
    exact strKind_is P w y t
theorem ent_mem {l : List (Int × Value)} (g : ∀ e ∈ l, Ent P w e) (x : Str) : x ∈ l.map txt ↔ ∃ e ∈ l, (strKind P w).is x e.2 = true := by
  rw [List.mem_map]
  exact ⟨fun ⟨e, he, q⟩ => ⟨e, he, (ent_is (g e he) x).2 q⟩, fun ⟨e, he, q⟩ => ⟨e, he, (ent_is (g e he) x).1 q⟩⟩
end
section
variable {P : Program} {w : World} {A : Around} {E : Value → Shared → Prop} {s : Shared} {a : Addr} {S : Str → Bool} {n : Nat}
/-- the entries and the table laid down -/
theorem laid {h : Heap} {o : Obj} {es fs : Array (Int × Value)} {ep : Nat} {t u : SetTable} (at_ : h.get? a = some o) (dt : o.data = .set es ep t) : (h.update a (Obj.putSet fs u)).get? a = some { o with data := .set fs (ep + 1) u } := by
  have e := putSet_of fs u dt
  have := Heap.get?_update_self (Obj.putSet fs u) at_ (by rw [e]; rfl)
  rwa [e] at this
/-- what adding ends with -/
theorem add_end {quiet : Bool → Sem Unit} (hq : ∀ (b : Bool) (z : Shared) (K : Unit → Shared → Prop), K () z → wpAny (model P w) A (quiet b) K E z) {o : Obj} {es : Array (Int × Value)} {ep : Nat} {t : SetTable} (at_ : s.heap.get? a = some o) (ex : o.ExactSet) (dt : o.data = .set es ep t)
    {fs : Array (Int × Value)} {u : SetTable} {S' : Str → Bool} (gf : ∀ e ∈ fs.toList, Ent P w e) (ndf : (fs.toList.map txt).Nodup) (mf : ∀ x, S' x = true ↔ x ∈ fs.toList.map txt) (few : fs.size < scanBound) (fit : u.fits fs.size = true) (ru : Ris u.place.toList) (lu : w.params.followText "set-order" = true ∨ u.led = true) {dm : Bool} {K : Option Bool → Shared → Prop}
    (hK : ∀ h2, Heap.SameBut a s.heap h2 → IsTS P w h2 a S' fs.size → K (some true) { s with heap := h2 }) :
    wpAny (model P w) A (do
      storeSet a fs u
      if (!dm && u.tooFull) = true then do
        quiet (relayAll u fs (SetTable.grown fs.size)).2.2
        storeSet a (relayAll u fs (SetTable.grown fs.size)).1 (relayAll u fs (SetTable.grown fs.size)).2.1
        pure (some true)
      else pure (some true)) K E s := by
  refine wpAny_bind (wpAny_storeSet_of at_ dt ?_ (fits_of_scanBound few))
  have at1 := laid (fs := fs) (u := u) at_ dt
  have b1 := Heap.SameBut.update s.heap a (Obj.putSet fs u)
  by_cases c : (!dm && u.tooFull) = true
  · rw [if_pos c]
    have p1 := relayAll_perm u fs (SetTable.grown fs.size)
    have p2 := relayAll_fits u fs (SetTable.grown fs.size)
    have p3 := relayAll_ris u fs (SetTable.grown fs.size)
    have p4 := relayAll_led u fs (SetTable.grown fs.size)
    generalize relayAll u fs (SetTable.grown fs.size) = Z at p1 p2 p3 p4 ⊢
    obtain ⟨gs, v, gv⟩ := Z
    have sz : gs.size = fs.size := by have := p1.length_eq; simpa using this
    refine wpAny_bind (hq gv _ _ (wpAny_bind (wpAny_storeSet_of at1 rfl ?_ (fits_of_scanBound (show gs.size < scanBound by rw [sz]; exact few)))))
    have at2 := laid (fs := gs) (u := v) at1 rfl
    refine wpAny_pure (hK _ (b1.trans (Heap.SameBut.update _ a _)) ⟨_, gs, _, v, ⟨at2, ex, rfl, fun e he => gf e (p1.mem_iff.mp he), (p1.map txt).nodup_iff.mpr ndf, fun x => (mf x).trans (p1.map txt).mem_iff.symm, by rw [sz]; exact few, p2, sz, p3, ?_⟩⟩)
    exact lu.imp id fun z => p4.trans z
  · rw [if_neg c]
    exact wpAny_pure (hK _ b1 ⟨_, fs, _, u, ⟨at1, ex, rfl, gf, ndf, mf, few, fit, rfl, ru, lu⟩⟩)
theorem add_txt {x : Str} {tk : Tok} {K : Bool → Shared → Prop} (R : IsTS P w s.heap a S n) (room : n + 1 < scanBound)
    (hK : ∀ h2, Heap.SameBut a s.heap h2 → IsTS P w h2 a (fun y => S y || decide (y = x)) (if S x = true then n else n + 1) → K (!S x) { s with heap := h2 }) :
    wpAny (model P w) A (setAddHashed a (.str x tk) ((strKind P w).hash x)) K E s := by
  obtain ⟨o, es, ep, t, R⟩ := R
  have key : (strKind P w).is x (.str x tk) = true := strKind_is P w x tk
  have sc : (Value.str x tk).scannable = true := rfl
  have el : ElemsOf (strKind P w) es.toList := fun e he => by
    obtain ⟨y, u, h1, h2⟩ := R.g e he
    exact ⟨⟨y, by rw [h1]; exact strKind_is P w y u, h2⟩, by rw [h1]; rfl⟩
  unfold setAddHashed setAddHashedIn
  refine wpAny_holding (wpAny_bind (wpAny_setState_of R.at_ R.d R.fit ?_))
  dsimp only
  rw [byScan_of sc R.few el, if_pos rfl]
  unfold setAddByScan
  refine wpAny_bind (wpAny_bind (wpAny_rule (wpAny_bind (wpAny_setScan_of key R.at_ R.d R.fit el ?_))))
  cases found : List.findIdx? (fun e => (strKind P w).is x e.2) es.toList with
  | some j =>
    obtain ⟨hj, pj, _⟩ := List.findIdx?_eq_some_iff_getElem.mp found
    have inS : S x = true := (R.m x).2 ((ent_mem R.g x).2 ⟨_, List.getElem_mem hj, pj⟩)
    dsimp only
    refine wpAny_pure (wpAny_pure ?_)
    have := hK s.heap (Heap.SameBut.refl a s.heap) ⟨o, es, ep, t, ⟨R.at_, R.ex, R.d, R.g, R.nd, fun y => ?_, R.few, R.fit, by rw [if_pos inS]; exact R.n, R.r, R.l⟩⟩
    · rwa [inS] at this
    · rw [Bool.or_eq_true, decide_eq_true_eq, ← R.m y]
      exact ⟨fun z => z.elim id fun e => by rw [e]; exact inS, fun z => .inl z⟩
  | none =>
    have out : x ∉ es.toList.map txt := fun z => by
      obtain ⟨e, he, q⟩ := (ent_mem R.g x).1 z
      have := List.findIdx?_eq_none_iff.mp found e he
      rw [q] at this
      cases this
    have notS : S x = false := Bool.eq_false_iff.mpr fun z => out ((R.m x).1 z)
    dsimp only
    have still : ∀ (b : Bool) (z : Shared) (Q : Unit → Shared → Prop), Q () z → wpAny (model P w) A (match b with | true => rule "set.scan.the-table-gave-way" | false => pure ()) Q E z := fun b z Q q => by
      cases b with
      | true => exact wpAny_rule q
      | false => exact wpAny_pure q
    have p1 := layNew_perm t es ((strKind P w).hash x) (.str x tk)
    have p2 := layNew_fits t es ((strKind P w).hash x) (.str x tk)
    have p3 := layNew_ris t es ((strKind P w).hash x) (.str x tk) R.r
    have p4 := layNew_led t es ((strKind P w).hash x) (.str x tk)
    generalize layNew t es ((strKind P w).hash x) (.str x tk) = Z at p1 p2 p3 p4 ⊢
    obtain ⟨fs, u, dm, gv⟩ := Z
    dsimp only at p1 p2 p3 p4 ⊢
    have pc : fs.toList.Perm (((strKind P w).hash x, Value.str x tk) :: es.toList) := by
      rw [Array.toList_push] at p1
      exact p1.trans (List.perm_append_singleton _ _)
    have pt : (fs.toList.map txt).Perm (x :: es.toList.map txt) := pc.map txt
    have sz : fs.size = n + 1 := by
      have := pc.length_eq
      rw [Array.length_toList, List.length_cons, Array.length_toList, R.n] at this
      exact this
    have gf : ∀ e ∈ fs.toList, Ent P w e := fun e he => (List.mem_cons.mp (pc.mem_iff.mp he)).elim (fun z => by rw [z]; exact ⟨x, tk, rfl, rfl⟩) (R.g e)
    have ndf : (fs.toList.map txt).Nodup := pt.nodup_iff.mpr (List.nodup_cons.mpr ⟨out, R.nd⟩)
    have mf : ∀ y, (S y || decide (y = x)) = true ↔ y ∈ fs.toList.map txt := fun y => by
      rw [pt.mem_iff, List.mem_cons, ← R.m y, Bool.or_eq_true, decide_eq_true_eq]
      exact Or.comm
    have few : fs.size < scanBound := by rw [sz]; exact room
    have lu : w.params.followText "set-order" = true ∨ u.led = true := R.l.imp id fun z => p4.trans z
    have fin : ∀ h2, Heap.SameBut a s.heap h2 → IsTS P w h2 a (fun y => S y || decide (y = x)) fs.size → K true { s with heap := h2 } := fun h2 b r => by
      have := hK h2 b (by rw [notS]; rw [sz] at r; exact r)
      rwa [notS] at this
    refine wpAny_bind (still _ _ _ ?_)
    split
    · refine wpAny_bind ?_
      rw [hashByValue_scannable 8 sc]
      refine wpAny_pure (add_end (fun b z Q q => still b z Q q) R.at_ R.ex R.d gf ndf mf few ?_ ?_ ?_ fun h2 b r => by dsimp only; exact wpAny_pure (fin h2 b r))
      · first | (split <;> first | exact p2 | exact SetTable.fits_plain_off p2) | exact p2
      · first | (split <;> exact p3) | exact p3
      · first | (split <;> exact lu) | exact lu
    · refine wpAny_bind (wpAny_pure ?_)
      simp only [↓reduceIte]
      exact add_end (fun b z Q q => still b z Q q) R.at_ R.ex R.d gf ndf mf few p2 p3 lu fun h2 b r => by dsimp only; exact wpAny_pure (fin h2 b r)
end
section
variable {P : Program} {w : World} {A : Around} {R : Result → Shared → Prop} {J : Addr} {fp wr : List Addr} {G : Array GenState → Array GenState → Prop} {n : Nat} {Pi : Nat → Value → Prop} {St : Nat → Shared → Prop}
open Vs
theorem fill_ts (W : WalksS P w A.in1 J fp wr G n Pi St) (a : Addr) (na : a ∉ fp) (xs : List Str) (hz : xs.length = n) (hb : n + 1 < scanBound) (hv : ∀ i v, Pi i v → ∃ t, v = .str (xs.getD i Str.empty) t) :
    ∀ (k i : Nat) (s : Shared), n - i = k → i ≤ n → St i s → IsTS P w s.heap a (seen xs i) (dcn xs i) →
      (∀ s', Moved (a :: wr) G s s' → IsTS P w s'.heap a (seen xs n) (dcn xs n) → R (.ok (.ret .none)) s') → codeAny (model P w) A (.builtin "set.update.loop" ⟨[.ref a, .ref J], []⟩) R s := by
  have nw : a ∉ wr := fun q => na (W.sub _ q)
  have up : ∀ b ∈ wr, b ∈ a :: wr := fun b q => List.mem_cons_of_mem _ q
  intro k
  induction k with
  | zero =>
    intro i s hk hi st gS hR
    obtain rfl : i = n := by omega
    refine codeAny_builtin PyProof.Rows.F.entry_set_update_loop ?_
    rw [Around.under_plainId PyProof.Rows.F.plain_set_update_loop _]
    show wpAny _ A.in1 (pyNext (.ref J) >>= _) _ _ s
    refine wpAny_bind (W.done s _ _ st fun s' mv => ?_)
    show wpAny _ A.in1 (ret Value.none) _ _ s'
    exact wpAny_pure (hR s' (mv.mono up) (gS.at fun o ho => mv.heap a _ nw ho))
  | succ k ih =>
    intro i s hk hi st gS hR
    have lt : i < n := by omega
    refine codeAny_builtin PyProof.Rows.F.entry_set_update_loop ?_
    rw [Around.under_plainId PyProof.Rows.F.plain_set_update_loop _]
    show wpAny _ A.in1 (pyNext (.ref J) >>= _) _ _ s
    refine wpAny_bind (W.item i s _ _ lt st fun v s' pv st' mv => ?_)
    obtain ⟨t, rfl⟩ := hv i v pv
    have gS1 : IsTS P w s'.heap a (seen xs i) (dcn xs i) := gS.at fun o ho => mv.heap a _ nw ho
    show wpAny _ A.in1 (holding [Value.str (xs.getD i Str.empty) t] (setAdd a (.str (xs.getD i Str.empty) t)) >>= _) _ _ s'
    refine wpAny_bind (wpAny_holding ?_)
    unfold setAdd
    refine wpAny_holding (wpAny_bind ((PySem.strKind P w).pyHash (k := xs.getD i Str.empty) (strKind_is _ _ _ _) ?_))
    have rm : dcn xs i + 1 < scanBound := by have := dcn_le xs i; omega
    refine add_txt (s := { s' with toks := s'.toks + 1 }) gS1 rm fun h' sb gS2 => ?_
    have gS3 : IsTS P w h' a (seen xs (i + 1)) (dcn xs (i + 1)) := gS2.cg (fun y => (seen_next (by omega) y).symm) rfl
    refine wpAny_pure ⟨plainId_quiet PyProof.Rows.F.plain_set_update_loop _, ih (i + 1) _ (by omega) lt (W.frame _ s' _ _ st' (Nat.le_succ _) fun b q o e => ?_) gS3 fun s2 mv2 gS4 => ?_⟩
    · rw [sb.2 b (fun z : b = a => na (by rw [← z]; exact q))]; exact e
    · refine hR s2 (Moved.trans W.gtrans ((mv.mono up).then_heap (Nat.le_succ _) fun b o q e => ?_) mv2) gS4
      rw [sb.2 b (fun z : b = a => q (by rw [z]; exact List.mem_cons_self))]; exact e
end
abbrev ledOf (w : World) : Bool := !w.params.followText "set-order"
open Vs (newSet)
theorem fresh_ts {P : Program} {w : World} {h : Heap} {a : Addr} {S : Str → Bool} (at_ : h.get? a = some (newSet (ledOf w))) (e : ∀ x, S x = false := by intro x; rfl) : IsTS P w h a S 0 := by
  refine ⟨_, #[], 0, _, ⟨at_, ⟨rfl, rfl, rfl⟩, rfl, fun e he => by simp at he, by simp, fun x => by rw [e x]; simp, by decide, by rfl, rfl, List.Pairwise.nil, ?_⟩⟩
  show _ ∨ ledOf w = true
  unfold ledOf
  cases w.params.followText "set-order" with
  | true => exact .inl rfl
  | false => exact .inr rfl
open Vs
section
variable {P : Program} {w : World} {A : Around} {E : Value → Shared → Prop} {s : Shared}
/-- set(v) of a list or a tuple of texts: T its class, oi what its iterator is -/
theorem make_ts {T : String} {oi : Obj} {l : Addr} {items : Array Value} {xs : List Str} {Q : Value → Shared → Prop} {Hl : Heap → Prop} {Si : Addr → Nat → Heap → Prop} (hl : Hl s.heap) (B : Begins (.ref l) oi Hl) (hT : ∀ h, Hl h → ∃ o, h.get? l = some o ∧ o.cls = .type T)
    (s1 : isSubtype (.type T) (.type "set") = pure false) (s2 : isSubtype (.type T) (.type "frozenset") = pure false) (ne : (Value.type T == Value.type "dict") = false) (ndc : T ≠ "dict")
    (W : ∀ J, l ≠ J → Walks P w A.in1.in1.in1 J [J, l] [J] items.size (fun i v => items[i]? = some v) (Si J)) (S0 : ∀ h J, h.get? J = some oi → Hl h → Si J 0 h)
    (hi : StrsAre items.toList xs) (hb : xs.length + 1 < scanBound)
    (h : ∀ (h' : Heap) (tk : Nat), IsTS P w h' s.heap.objs.size (seen xs xs.length) (dcn xs xs.length) → (∀ b o, b < s.heap.objs.size → s.heap.get? b = some o → h'.get? b = some o) → Q (.ref s.heap.objs.size) { s with heap := h', toks := tk }) :
    wpAny (model P w) A (call (.type "set") [.ref l]) Q E s := by
  obtain ⟨c, tl, hmro⟩ := PySem.F.called_set.mro
  have z1 := PySem.F.called_set.made
  have z2 := PySem.F.called_set.sub
  refine wpAny_call (codeAny_of_tree ?_)
  show wpAny _ _ (callAny (.type "set") _) _ _ _
  refine wpAny_pure ⟨Code.quiet_builtin _ (by decide +kernel), codeAny_builtin PySem.F.entry_type_call ?_⟩
  rw [Around.under_plain (weight_type_call_type "set" [.ref l] []) rfl]
  have z3 := PySem.F.called_set.notType
  have z4 := PySem.F.called_set.canCreate
  have z5 := PySem.F.typeCall_set_1 (.ref l)
  repeat (any_goals (first | assumption | wp_step))
  refine codeAny_mono (code_set_led1 (.ref l) (E := E) (Q₁ := fun ob t => ob = .ref s.heap.objs.size ∧ t = { s with heap := s.heap.push (newSet (ledOf w)) }) ⟨rfl, rfl⟩) fun r t hr => ?_
  cases r with
  | error e => exact hr
  | ok fl =>
    cases fl with
    | next => exact hr.elim
    | brk => exact hr.elim
    | cont => exact hr.elim
    | ret ob =>
      obtain ⟨rfl, rfl⟩ := hr
      have gA : (s.heap.push (newSet (ledOf w))).get? s.heap.objs.size = some (newSet (ledOf w)) := Heap.get?_push_size _ rfl
      have tA : Shared.TypeIs { s with heap := s.heap.push (newSet (ledOf w)) } (.ref s.heap.objs.size) "set" := ⟨_, gA, rfl⟩
      have z6 := PySem.F.called_set.init.lookup
      have z7 := PySem.F.called_set.init.bind (.ref s.heap.objs.size)
      repeat (any_goals (first | assumption | wp_step))
      refine codeAny_mono (codeAny_call_builtin (R := wants (fun r t => r = .none ∧ ∃ h' tk, t = { s with heap := h', toks := tk } ∧ IsTS P w h' s.heap.objs.size (seen xs xs.length) (dcn xs xs.length) ∧
          (∀ b o, b < s.heap.objs.size → s.heap.get? b = some o → h'.get? b = some o)) E) PySem.F.called_set.init.plain PySem.F.entry_set_init (check_set_init_1 tA ?_)) fun r2 t2 hr2 => ?_
      · have hl1 : Hl (s.heap.push (newSet (ledOf w))) := B.keeps _ _ hl fun b o e => Heap.get?_push_of_some _ e
        obtain ⟨ol, hol, hcl⟩ := hT _ hl
        have hol1 : (s.heap.push (newSet (ledOf w))).get? l = some ol := Heap.get?_push_of_some _ hol
        have tL : Shared.TypeIs { s with heap := s.heap.push (newSet (ledOf w)) } (.ref l) T := ⟨_, hol1, hcl⟩
        unfold Builtin.«set.__init__» noKeywords Builtin.Frozenset.updateFrom
        generalize hPI : pyIter = PI
        wp_walk
        subst hPI
        refine B.iter _ _ _ _ _ _ hl1 ?_
        refine wpAny_bind (wpAny_runValue ?_)
        have ll : l < s.heap.objs.size := Heap.lt_size hol
        have zJ : (s.heap.push (newSet (ledOf w))).objs.size = s.heap.objs.size + 1 := Heap.size_push ..
        have nJ : l ≠ (s.heap.push (newSet (ledOf w))).objs.size := by rw [zJ]; exact Nat.ne_of_lt (Nat.lt_succ_of_lt ll)
        have nA : s.heap.objs.size ∉ [(s.heap.push (newSet (ledOf w))).objs.size, l] := by
          rw [zJ]
          simp only [List.mem_cons, List.not_mem_nil, or_false, not_or]
          exact ⟨Nat.ne_of_lt (Nat.lt_succ_self _), Nat.ne_of_gt ll⟩
        have hz : xs.length = items.size := by rw [← StrsAre.len_eq hi, Array.length_toList]
        have hl2 : Hl ((s.heap.push (newSet (ledOf w))).push oi) := B.keeps _ _ hl1 fun b o e => Heap.get?_push_of_some _ e
        have gA2 : ((s.heap.push (newSet (ledOf w))).push oi).get? s.heap.objs.size = some (newSet (ledOf w)) := Heap.get?_push_of_some _ gA
        refine fill_ts ((W _ nJ).toS) s.heap.objs.size nA xs hz (by rw [← hz]; exact hb) (fun i v hv => strs_at hi i v (by rw [Array.getElem?_toList]; exact hv)) (items.size - 0) 0 _ (by omega) (Nat.zero_le _)
          (S0 _ _ (Heap.get?_push_size _ B.free) hl2) (fresh_ts gA2) fun s' mv gS => ?_
        obtain ⟨h', g', d', tk', os'⟩ := s'
        obtain rfl : g' = s.gens := mv.gens
        obtain rfl : d' = s.drawn := mv.drawn
        obtain rfl : os' = s.os := mv.os
        show wpAny _ _ _ _ _ _
        refine wpAny_pure ?_
        show wpAny _ _ (ret Value.none) _ _ _
        rw [← hz] at gS
        refine wpAny_pure ⟨rfl, h', tk', rfl, gS, fun b o q e => ?_⟩
        have b1 : b ≠ s.heap.objs.size := Nat.ne_of_lt q
        have b2 : b ≠ (s.heap.push (newSet (ledOf w))).objs.size := by rw [zJ]; exact Nat.ne_of_lt (Nat.lt_succ_of_lt q)
        exact mv.heap b o (by simp only [List.mem_cons, List.not_mem_nil, or_false, not_or]; exact ⟨b1, b2⟩) (Heap.get?_push_of_some _ (Heap.get?_push_of_some _ e))
      · cases r2 with
        | error e => exact hr2
        | ok fl2 =>
          cases fl2 with
          | next => exact hr2.elim
          | brk => exact hr2.elim
          | cont => exact hr2.elim
          | ret r =>
            obtain ⟨rfl, h', tk, rfl, gS, kp⟩ := hr2
            repeat (any_goals (first | assumption | wp_step))
            exact h _ _ gS kp
end
/-! sorted of such a set -/
theorem ent_strs {P : Program} {w : World} {es : List (Int × Value)} (g : ∀ e ∈ es, Ent P w e) {vs : List Value} (pm : vs.Perm (es.map (·.2))) : StrsAre vs (vs.map strOf) :=
  strsAre_map vs fun v hv => by
    obtain ⟨e, he, q⟩ := List.mem_map.mp (pm.mem_iff.mp hv)
    obtain ⟨x, t, h1, _⟩ := g e he
    exact ⟨x, t, by rw [← q]; exact h1⟩
section
variable {P : Program} {w : World} {A : Around} {E : Value → Shared → Prop} {s : Shared} {a : Addr} {S : Str → Bool} {n : Nat}
theorem sorted_ts {K : Value → Shared → Prop} (R : IsTS P w s.heap a S n) (calm : A.handled = none) (few : n < 64)
    (hK : ∀ z p (out : Array Value) (c : Nat) (ys : List Str), (∀ b o, s.heap.get? b = some o → z.heap.get? b = some o) → z.gens = s.gens → z.os = s.os → s.heap.objs.size ≤ p →
      z.heap.get? p = some (seqObj "list" out c) → StrsAre out.toList ys → sortedS ys = true → ys.Nodup → (∀ x, x ∈ ys ↔ S x = true) → ys.length = n → K (.ref p) z) :
    wpAny (model P w) A (call (.builtin "sorted") [.ref a]) K E s := by
  obtain ⟨o, es, ep, t, R⟩ := R
  refine Calls.call_function_entry kind_sorted plain_sorted entry_sorted (args_sorted1 _) ?_
  unfold Builtin.«sorted»
  refine wpAny_bind (m := checkCount "sorted" 1 1 _) (wpAny_pure (wpAny_bind ?_))
  refine collect_set (A := A.in1) calm ⟨o, R.at_, R.ex.1, R.d⟩ R.fit R.few R.r R.l fun z vs old grown sg so pm => ?_
  have lv : vs.length = n := by rw [pm.length_eq, List.length_map, Array.length_toList]; exact R.n
  have st := ent_strs R.g pm
  have pt : (vs.map strOf).Perm (es.toList.map txt) := by
    have := pm.map strOf
    rwa [List.map_map] at this
  refine wpAny_bind (wpAny_newList ?_ (by rw [lv, sizeLine_eq]; omega))
  have top : (z.heap.push (seqObj "list" vs.toArray 0)).get? z.heap.objs.size = some (seqObj "list" vs.toArray 0) := Heap.get?_push_size _ rfl
  refine wpAny_bind (wpAny_holding (wpAny_call_entry slot_list_sort ⟨_, top, rfl⟩ entry_list_sort (list_sort_treeK (κ := strKind) strKind_oneLt top st.keysOf (fun v₁ v₂ rest e => keyKind_strs (by rw [← e]; exact st)) (by rw [lv]; exact few) fun q hp hs => ?_) (args_list_sort _)))
  obtain ⟨ys, s1, s2, s3⟩ := sorted_out_str st hp hs
  obtain ⟨c, hc⟩ := sortedHeap_at (vs := vs) (out := (arrOf q).map (·.2)) top
  have py : ys.Perm (es.toList.map txt) := s2.trans pt
  refine ⟨_, rfl, wpAny_pure ⟨_, rfl, hK _ z.heap.objs.size _ c ys (fun b u e => ?_) sg so grown hc s1 s3 (py.nodup_iff.mpr R.nd) (fun x => by rw [py.mem_iff, ← R.m x]) ?_⟩⟩
  · have h1 := old b u e
    have lt := Heap.lt_size h1
    show (sortedHeap (z.heap.push (seqObj "list" vs.toArray 0)) z.heap.objs.size vs _).get? b = some u
    rw [sortedHeap_old (Nat.ne_of_lt lt) (by rw [size_push']; exact Nat.lt_succ_of_lt lt)]
    exact Heap.get?_push_of_some _ h1
  · rw [py.length_eq, List.length_map, Array.length_toList]; exact R.n
end
end Vz

/-! Trees: values as trees D (leaves, lists, tuples, dicts, instances), what represents them in a heap (Rep), slots (Env, EnvOk), and readings of expressions over trees. -/
namespace L2.Tr
open PySem PySem.Spec PyProof.Rows
/-- a value as a tree: seq true is a list, seq false a tuple; a dict by its keys and values; an instance by its fields -/
inductive D where
  | leaf (v : V)
  | seq (b : Bool) (xs : List D)
  | dct (ks : List Key) (xs : List D)
  | obj (C : Addr) (ns : List Str) (xs : List D)
  /-- a dict that a loop has locked -/
  | frz (ks : List Key) (xs : List D)
def leafy : V → Bool
  | .non => true
  | .bl _ => true
  | .int _ => true
  | .str x => decide (x.length ≤ 1000)
  | .ref _ => true
  | _ => false
abbrev mkS (b : Bool) (us : List V) : HO := cond b (.lst us) (.tup us)
abbrev Lim : Nat := 5000
mutual
def Rep (H : Hp) : D → V → Prop
  | .leaf x, v => v = x ∧ leafy x = true
  | .seq b ds, v => ∃ a us, v = .ref a ∧ H a = some (mkS b us) ∧ ds.length ≤ Lim ∧ Reps H ds us
  | .dct ks ds, v => ∃ a us, v = .ref a ∧ H a = some (.dK (ks.zip us)) ∧ ks.length = ds.length ∧ ds.length ≤ Lim ∧ Reps H ds us
  | .obj C ns ds, v => ∃ a dx us, v = .ref a ∧ H a = some (.ins C dx (ns.zip us)) ∧ ns.length = ds.length ∧ Reps H ds us
  | .frz ks ds, v => ∃ a us o, v = .ref a ∧ H a = some (.frz o (.dK (ks.zip us))) ∧ ks.length = ds.length ∧ ds.length ≤ Lim ∧ Reps H ds us
def Reps (H : Hp) : List D → List V → Prop
  | [], us => us = []
  | d :: ds, us => ∃ u r, us = u :: r ∧ Rep H d u ∧ Reps H ds r
end
/-- all that was tracked is as it was -/
def Ex (H H' : Hp) : Prop := ∀ a o, H a = some o → H' a = some o
theorem Ex.refl (H : Hp) : Ex H H := fun _ _ h => h
theorem Ex.trans {H H' H2 : Hp} (a : Ex H H') (b : Ex H' H2) : Ex H H2 := fun x o h => b x o (a x o h)
theorem Ex.new {H : Hp} {p : Addr} {o : HO} (h : H p = none) : Ex H (upd H p o) := fun a u e => by
  rw [upd_ne (ne_of_none e h)]; exact e
theorem Ex.back {H H' : Hp} {p : Addr} (e : Ex H H') (h : H' p = none) : H p = none := by
  cases q : H p with
  | none => rfl
  | some o => rw [e p o q] at h; cases h
mutual
theorem Rep.mono {H H' : Hp} (e : Ex H H') : ∀ {d : D} {v : V}, Rep H d v → Rep H' d v
  | .leaf x, v, h => by unfold Rep at h ⊢; exact h
  | .seq b ds, v, h => by
    unfold Rep at h ⊢
    obtain ⟨a, us, h1, h2, h3, h4⟩ := h
    exact ⟨a, us, h1, e _ _ h2, h3, Reps.mono e h4⟩
  | .dct ks ds, v, h => by
    unfold Rep at h ⊢
    obtain ⟨a, us, h1, h2, h3, h4, h5⟩ := h
    exact ⟨a, us, h1, e _ _ h2, h3, h4, Reps.mono e h5⟩
  | .frz ks ds, v, h => by
    unfold Rep at h ⊢
    obtain ⟨a, us, o, h1, h2, h3, h4, h5⟩ := h
    exact ⟨a, us, o, h1, e _ _ h2, h3, h4, Reps.mono e h5⟩
  | .obj C ns ds, v, h => by
    unfold Rep at h ⊢
    obtain ⟨a, dx, us, h1, h2, h3, h4⟩ := h
    exact ⟨a, dx, us, h1, e _ _ h2, h3, Reps.mono e h4⟩
theorem Reps.mono {H H' : Hp} (e : Ex H H') : ∀ {ds : List D} {us : List V}, Reps H ds us → Reps H' ds us
  | [], us, h => by unfold Reps at h ⊢; exact h
  | d :: ds, us, h => by
    unfold Reps at h ⊢
    obtain ⟨u, r, h1, h2, h3⟩ := h
    exact ⟨u, r, h1, Rep.mono e h2, Reps.mono e h3⟩
end
section
variable {H H' : Hp} {d : D} {ds es : List D} {u v : V} {us ws : List V}
theorem Reps.nil : Reps H [] [] := by unfold Reps; rfl
theorem Reps.cons (h : Rep H d u) (t : Reps H ds us) : Reps H (d :: ds) (u :: us) := by unfold Reps; exact ⟨u, us, rfl, h, t⟩
theorem Reps.un (h : Reps H (d :: ds) us) : ∃ u r, us = u :: r ∧ Rep H d u ∧ Reps H ds r := by unfold Reps at h; exact h
theorem Reps.un0 (h : Reps H [] us) : us = [] := by unfold Reps at h; exact h
theorem Rep.lf {x : V} (h : leafy x = true) : Rep H (.leaf x) x := by unfold Rep; exact ⟨rfl, h⟩
theorem Rep.un_lf {x : V} (h : Rep H (.leaf x) v) : v = x ∧ leafy x = true := by unfold Rep at h; exact h
theorem Rep.sq {b : Bool} {a : Addr} (h : H a = some (mkS b us)) (hl : ds.length ≤ Lim) (r : Reps H ds us) : Rep H (.seq b ds) (.ref a) := by unfold Rep; exact ⟨a, us, rfl, h, hl, r⟩
theorem Rep.un_sq {b : Bool} (h : Rep H (.seq b ds) v) : ∃ a us, v = .ref a ∧ H a = some (mkS b us) ∧ ds.length ≤ Lim ∧ Reps H ds us := by unfold Rep at h; exact h
theorem Rep.un_dct {ks : List Key} (h : Rep H (.dct ks ds) v) : ∃ a us, v = .ref a ∧ H a = some (.dK (ks.zip us)) ∧ ks.length = ds.length ∧ ds.length ≤ Lim ∧ Reps H ds us := by unfold Rep at h; exact h
theorem Rep.un_obj {C : Addr} {ns : List Str} (h : Rep H (.obj C ns ds) v) : ∃ a dx us, v = .ref a ∧ H a = some (.ins C dx (ns.zip us)) ∧ ns.length = ds.length ∧ Reps H ds us := by unfold Rep at h; exact h
theorem Rep.un_frz {ks : List Key} (h : Rep H (.frz ks ds) v) : ∃ a us o, v = .ref a ∧ H a = some (.frz o (.dK (ks.zip us))) ∧ ks.length = ds.length ∧ ds.length ≤ Lim ∧ Reps H ds us := by unfold Rep at h; exact h
theorem Rep.fz {ks : List Key} {a : Addr} {o : Obj} (h : H a = some (.frz o (.dK (ks.zip us)))) (hk : ks.length = ds.length) (hl : ds.length ≤ Lim) (r : Reps H ds us) : Rep H (.frz ks ds) (.ref a) := by unfold Rep; exact ⟨a, us, o, rfl, h, hk, hl, r⟩
theorem Rep.dc {ks : List Key} {a : Addr} (h : H a = some (.dK (ks.zip us))) (hk : ks.length = ds.length) (hl : ds.length ≤ Lim) (r : Reps H ds us) : Rep H (.dct ks ds) (.ref a) := by unfold Rep; exact ⟨a, us, rfl, h, hk, hl, r⟩
theorem Rep.ob {C dx : Addr} {ns : List Str} {a : Addr} (h : H a = some (.ins C dx (ns.zip us))) (hk : ns.length = ds.length) (r : Reps H ds us) : Rep H (.obj C ns ds) (.ref a) := by unfold Rep; exact ⟨a, dx, us, rfl, h, hk, r⟩
end
section
variable {H : Hp}
theorem Reps.len : ∀ {ds : List D} {us : List V}, Reps H ds us → us.length = ds.length
  | [], us, h => by rw [h.un0]; rfl
  | d :: ds, us, h => by
    obtain ⟨u, r, rfl, _, t⟩ := h.un
    rw [List.length_cons, List.length_cons, t.len]
theorem Reps.get : ∀ {ds : List D} {us : List V} {i : Nat} {d : D}, Reps H ds us → ds[i]? = some d → ∃ u, us[i]? = some u ∧ Rep H d u
  | [], us, i, d, h, e => by simp at e
  | d0 :: ds, us, 0, d, h, e => by
    obtain ⟨u, r, rfl, q, t⟩ := h.un
    cases e
    exact ⟨u, rfl, q⟩
  | d0 :: ds, us, i + 1, d, h, e => by
    obtain ⟨u, r, rfl, q, t⟩ := h.un
    obtain ⟨w, h1, h2⟩ := t.get (i := i) (d := d) (by simpa using e)
    exact ⟨w, by simpa using h1, h2⟩
theorem Reps.getV : ∀ {ds : List D} {us : List V} {i : Nat} {u : V}, Reps H ds us → us[i]? = some u → ∃ d, ds[i]? = some d ∧ Rep H d u := fun {ds us i u} h e => by
  have hl : i < us.length := (List.getElem?_eq_some_iff.mp e).1
  have hl2 : i < ds.length := by rw [← h.len]; exact hl
  obtain ⟨w, h1, h2⟩ := h.get (List.getElem?_eq_getElem hl2)
  rw [e] at h1
  cases h1
  exact ⟨_, List.getElem?_eq_getElem hl2, h2⟩
theorem Reps.app : ∀ {ds es : List D} {us ws : List V}, Reps H ds us → Reps H es ws → Reps H (ds ++ es) (us ++ ws)
  | [], es, us, ws, h, k => by rw [h.un0]; exact k
  | d :: ds, es, us, ws, h, k => by
    obtain ⟨u, r, rfl, q, t⟩ := h.un
    exact .cons q (t.app k)
theorem Reps.tk : ∀ (n : Nat) {ds : List D} {us : List V}, Reps H ds us → Reps H (ds.take n) (us.take n)
  | 0, _, _, _ => by rw [List.take_zero, List.take_zero]; exact .nil
  | n + 1, [], us, h => by rw [h.un0]; exact .nil
  | n + 1, d :: ds, us, h => by
    obtain ⟨u, r, rfl, q, t⟩ := h.un
    exact .cons q (t.tk n)
theorem Reps.dp : ∀ (n : Nat) {ds : List D} {us : List V}, Reps H ds us → Reps H (ds.drop n) (us.drop n)
  | 0, _, _, h => h
  | n + 1, [], us, h => by rw [h.un0]; exact .nil
  | n + 1, d :: ds, us, h => by
    obtain ⟨u, r, rfl, q, t⟩ := h.un
    exact t.dp n
theorem Reps.rev : ∀ {ds : List D} {us : List V}, Reps H ds us → Reps H ds.reverse us.reverse
  | [], us, h => by rw [h.un0]; exact .nil
  | d :: ds, us, h => by
    obtain ⟨u, r, rfl, q, t⟩ := h.un
    rw [List.reverse_cons, List.reverse_cons]
    exact t.rev.app (.cons q .nil)
theorem Reps.st {d : D} {u : V} (r : Rep H d u) : ∀ (i : Nat) {ds : List D} {us : List V}, Reps H ds us → Reps H (ds.set i d) (us.set i u)
  | _, [], us, h => by rw [h.un0]; exact .nil
  | 0, d0 :: ds, us, h => by
    obtain ⟨w, s, rfl, q, t⟩ := h.un
    exact .cons r t
  | i + 1, d0 :: ds, us, h => by
    obtain ⟨w, s, rfl, q, t⟩ := h.un
    exact .cons q (t.st r i)
theorem Reps.repl {d : D} {u : V} (r : Rep H d u) : ∀ n : Nat, Reps H (List.replicate n d) (List.replicate n u)
  | 0 => .nil
  | n + 1 => .cons r (Reps.repl r n)
theorem Reps.flat {d : D} : ∀ n : Nat, True := fun _ => trivial
/-- leaves -/
theorem Reps.lfs : ∀ {vs : List V}, (∀ v ∈ vs, leafy v = true) → Reps H (vs.map D.leaf) vs
  | [], _ => .nil
  | v :: r, h => .cons (.lf (h v List.mem_cons_self)) (Reps.lfs fun w hw => h w (List.mem_cons_of_mem _ hw))
theorem Reps.un_lfs : ∀ {vs us : List V}, Reps H (vs.map D.leaf) us → us = vs
  | [], us, h => h.un0
  | v :: r, us, h => by
    obtain ⟨u, s, rfl, q, t⟩ := h.un
    rw [q.un_lf.1, t.un_lfs]
end
/-! ### slots -/
inductive Sl where
  | un
  /-- a value that is not written to -/
  | pu (d : D)
  /-- a list, a dict, an instance of the def's own, which no other value holds -/
  | ow (d : D)
abbrev Env := List Sl
/-- what stands at an own thing's address -/
def Top (G : Hp) : D → HO → Prop
  | .seq true ds, o => ∃ us, o = .lst us ∧ ds.length ≤ Lim ∧ Reps G ds us
  | .dct ks ds, o => ∃ us, o = .dK (ks.zip us) ∧ ks.length = ds.length ∧ ds.length ≤ Lim ∧ Reps G ds us
  | .obj C ns ds, o => ∃ dx us, o = .ins C dx (ns.zip us) ∧ ns.length = ds.length ∧ Reps G ds us
  | _, _ => False
theorem Top.mono {G G2 : Hp} (e : Ex G G2) : ∀ {d : D} {o : HO}, Top G d o → Top G2 d o
  | .seq true ds, o, ⟨us, h1, h2, h3⟩ => ⟨us, h1, h2, h3.mono e⟩
  | .dct ks ds, o, ⟨us, h1, h2, h3, h4⟩ => ⟨us, h1, h2, h3, h4.mono e⟩
  | .obj C ns ds, o, ⟨dx, us, h1, h2, h3⟩ => ⟨dx, us, h1, h2, h3.mono e⟩
theorem Top.rep {G H : Hp} (e : Ex G H) {a : Addr} : ∀ {d : D} {o : HO}, Top G d o → H a = some o → Rep H d (.ref a)
  | .seq true ds, o, ⟨us, h1, h2, h3⟩, h => by subst h1; exact .sq (b := true) h h2 (h3.mono e)
  | .dct ks ds, o, ⟨us, h1, h2, h3, h4⟩, h => by subst h1; exact .dc h h2 h3 (h4.mono e)
  | .obj C ns ds, o, ⟨dx, us, h1, h2, h3⟩, h => by subst h1; exact .ob h h2 (h3.mono e)
structure EnvOk (G H : Hp) (σ : St) (ρ : Env) : Prop where
  gh : Ex G H
  len : σ.length = ρ.length
  pu : ∀ (i : Nat) (d : D), ρ[i]? = some (Sl.pu d) → ∃ v, σ[i]? = some (some v) ∧ Rep G d v
  ow : ∀ (i : Nat) (d : D), ρ[i]? = some (Sl.ow d) → ∃ p o, σ[i]? = some (some (V.ref p)) ∧ G p = none ∧ H p = some o ∧ Top G d o
  inj : ∀ (i j : Nat) (ds es : D) (p : Addr), ρ[i]? = some (Sl.ow ds) → ρ[j]? = some (Sl.ow es) → σ[i]? = some (some (V.ref p)) → σ[j]? = some (some (V.ref p)) → i = j
/-- G, H grow to G2, H2; what is new in G2 is new -/
structure Fr (G H G2 H2 : Hp) : Prop where
  g : Ex G G2
  gh : Ex G2 H2
  h : Ex H H2
  nw : ∀ a, H a ≠ none → G a = none → G2 a = none
section
variable {G H G2 H2 G3 H3 : Hp} {σ : St} {ρ : Env}
theorem Fr.refl (e : Ex G H) : Fr G H G H := ⟨Ex.refl _, e, Ex.refl _, fun _ _ h => h⟩
theorem Fr.trans (a : Fr G H G2 H2) (b : Fr G2 H2 G3 H3) : Fr G H G3 H3 :=
  ⟨a.g.trans b.g, b.gh, a.h.trans b.h, fun x h1 h2 => b.nw x (fun z => h1 (a.h.back z)) (a.nw x h1 h2)⟩
theorem Fr.new {p : Addr} {o : HO} (e : Ex G H) (n : H p = none) : Fr G H (upd G p o) (upd H p o) :=
  ⟨Ex.new (e.back n), fun a u z => by
    by_cases h : a = p
    · rw [h, upd_same] at z ⊢; exact z
    · rw [upd_ne h] at z ⊢; exact e _ _ z, Ex.new n, fun a h1 h2 => by
    have : a ≠ p := fun z => h1 (z ▸ n)
    rw [upd_ne this]; exact h2⟩
/-- a thing that nothing keeps -/
theorem Fr.tmp {p : Addr} {o : HO} (e : Ex G H) (n : H p = none) : Fr G H G (upd H p o) := ⟨Ex.refl _, e.trans (Ex.new n), Ex.new n, fun _ _ h => h⟩
theorem Fr.of (e : Ex G H) (e2 : Ex H H2) : Fr G H G H2 := ⟨Ex.refl _, e.trans e2, e2, fun _ _ h => h⟩
theorem Fr.ne {p : Addr} (f : Fr G H G2 H2) (n : H2 p = none) : H p = none := f.h.back n
theorem EnvOk.mono (x : EnvOk G H σ ρ) (f : Fr G H G2 H2) : EnvOk G2 H2 σ ρ :=
  ⟨f.gh, x.len, fun i d e => let ⟨v, h1, h2⟩ := x.pu i d e; ⟨v, h1, h2.mono f.g⟩, fun i ds e => by
    obtain ⟨p, o, h1, h2, h3, h4⟩ := x.ow i ds e
    exact ⟨p, o, h1, f.nw p (fun z => by rw [h3] at z; cases z) h2, f.h _ _ h3, h4.mono f.g⟩, x.inj⟩
end
/-! ### what a reading gives -/
/-- a value that may be kept -/
def PuS (t : TE) (φ : Env → Option D) : Prop := ∀ ρ d, φ ρ = some d → ∀ (G H : Hp) (σ : St), EnvOk G H σ ρ → ∀ Q : VK, (∀ v G2 H2, Fr G H G2 H2 → Rep G2 d v → Q v H2) → t σ H Q
/-- one to be read at once: perhaps an own list -/
def View (G H : Hp) (d : D) (v : V) : Prop := Rep G d v ∨ ∃ a o, v = .ref a ∧ H a = some o ∧ Top G d o
def ViS (t : TE) (φ : Env → Option D) : Prop := ∀ ρ d, φ ρ = some d → ∀ (G H : Hp) (σ : St), EnvOk G H σ ρ → ∀ Q : VK, (∀ v G2 H2, Fr G H G2 H2 → View G2 H2 d v → Q v H2) → t σ H Q
/-- a new list -/
def OwS (t : TE) (φ : Env → Option (List D)) : Prop := ∀ ρ ds, φ ρ = some ds → ∀ (G H : Hp) (σ : St), EnvOk G H σ ρ → ∀ Q : VK,
  (∀ p us G2 H2, Fr G H G2 H2 → H p = none → G2 p = none → H2 p = some (.lst us) → ds.length ≤ Lim → Reps G2 ds us → Q (.ref p) H2) → t σ H Q
def TeS (t : TT) (φ : Env → Option Bool) : Prop := ∀ ρ b, φ ρ = some b → ∀ (G H : Hp) (σ : St), EnvOk G H σ ρ → ∀ Q : Bool → Hp → Prop, (∀ G2 H2, Fr G H G2 H2 → Q b H2) → t σ H Q
def ArS (t : TA) (φ : Env → Option (List D)) : Prop := ∀ ρ ds, φ ρ = some ds → ∀ (G H : Hp) (σ : St), EnvOk G H σ ρ → ∀ Q : List V → Hp → Prop, (∀ vs G2 H2, Fr G H G2 H2 → Reps G2 ds vs → Q vs H2) → t σ H Q
structure PuD (X : Cx) (e : Expr) (t : TE) (φ : Env → Option D) : Prop where
  pe : PE X e t
  ev : PuS t φ
structure ViD (X : Cx) (e : Expr) (t : TE) (φ : Env → Option D) : Prop where
  pe : PE X e t
  ev : ViS t φ
structure OwD (X : Cx) (e : Expr) (t : TE) (φ : Env → Option (List D)) : Prop where
  pe : PE X e t
  ev : OwS t φ
structure TeD (X : Cx) (e : Expr) (t : TT) (φ : Env → Option Bool) : Prop where
  pt : PT X e t
  ev : TeS t φ
structure TwD (X : Cx) (e : Expr) (t : TT) (φ : Env → Option Bool) : Prop where
  pw : PW X e t
  ev : TeS t φ
structure ArD (X : Cx) (es : List Expr) (t : TA) (φ : Env → Option (List D)) : Prop where
  pa : PA X es t
  ev : ArS t φ
theorem View.mono {G H G2 H2 : Hp} {d : D} {v : V} (f : Fr G H G2 H2) (h : View G H d v) : View G2 H2 d v := by
  rcases h with h | ⟨a, o, h1, h2, h3⟩
  · exact .inl (h.mono f.g)
  · exact .inr ⟨a, o, h1, f.h _ _ h2, h3.mono f.g⟩
theorem View.seq {G H : Hp} {b : Bool} {ds : List D} {v : V} (e : Ex G H) (h : View G H (.seq b ds) v) : ∃ a us, v = .ref a ∧ H a = some (mkS b us) ∧ ds.length ≤ Lim ∧ Reps G ds us := by
  rcases h with h | ⟨a, o, h1, h2, h3⟩
  · obtain ⟨a, us, h1, h2, h3, h4⟩ := h.un_sq
    exact ⟨a, us, h1, e _ _ h2, h3, h4⟩
  · cases b with
    | true =>
      obtain ⟨us, rfl, h4, h5⟩ := h3
      exact ⟨a, us, h1, h2, h4, h5⟩
    | false => exact h3.elim
theorem View.dct {G H : Hp} {ks : List Key} {ds : List D} {v : V} (e : Ex G H) (h : View G H (.dct ks ds) v) : ∃ a us, v = .ref a ∧ H a = some (.dK (ks.zip us)) ∧ ks.length = ds.length ∧ ds.length ≤ Lim ∧ Reps G ds us := by
  rcases h with h | ⟨a, o, h1, h2, h3⟩
  · obtain ⟨a, us, h1, h2, h3, h4, h5⟩ := h.un_dct
    exact ⟨a, us, h1, e _ _ h2, h3, h4, h5⟩
  · obtain ⟨us, rfl, h4, h5, h6⟩ := h3
    exact ⟨a, us, h1, h2, h4, h5, h6⟩
theorem View.obj {G H : Hp} {C : Addr} {ns : List Str} {ds : List D} {v : V} (e : Ex G H) (h : View G H (.obj C ns ds) v) : ∃ a dx us, v = .ref a ∧ H a = some (.ins C dx (ns.zip us)) ∧ ns.length = ds.length ∧ Reps G ds us := by
  rcases h with h | ⟨a, o, h1, h2, h3⟩
  · obtain ⟨a, dx, us, h1, h2, h3, h4⟩ := h.un_obj
    exact ⟨a, dx, us, h1, e _ _ h2, h3, h4⟩
  · obtain ⟨dx, us, rfl, h4, h5⟩ := h3
    exact ⟨a, dx, us, h1, h2, h4, h5⟩
theorem View.frz {G H : Hp} {ks : List Key} {ds : List D} {v : V} (h : View G H (.frz ks ds) v) : Rep G (.frz ks ds) v := by
  rcases h with h | ⟨a, o, h1, h2, h3⟩
  · exact h
  · exact h3.elim
theorem View.tup {G H : Hp} {ds : List D} {v : V} (h : View G H (.seq false ds) v) : Rep G (.seq false ds) v := by
  rcases h with h | ⟨a, o, h1, h2, h3⟩
  · exact h
  · exact h3.elim
theorem View.rep {G H : Hp} {d : D} {v : V} (e : Ex G H) (h : View G H d v) : Rep H d v := by
  rcases h with h | ⟨a, o, rfl, h2, h3⟩
  · exact h.mono e
  · exact h3.rep e h2
theorem View.lf {G H : Hp} {x v : V} (h : View G H (.leaf x) v) : v = x ∧ leafy x = true := by
  rcases h with h | ⟨a, o, h1, h2, h3⟩
  · exact h.un_lf
  · exact h3.elim
section
variable {X : Cx} {e : Expr} {t : TE} {φ : Env → Option D} {ψ : Env → Option (List D)}
theorem PuD.vi (h : PuD X e t φ) : ViD X e t φ := ⟨h.pe, fun ρ d e G H σ x Q k => h.ev ρ d e G H σ x Q fun v G2 H2 f r => k v G2 H2 f (.inl r)⟩
theorem OwD.pu (h : OwD X e t ψ) : PuD X e t (fun ρ => (ψ ρ).map (D.seq true)) := ⟨h.pe, fun ρ d e G H σ x Q k => by
  obtain ⟨ds, e1, rfl⟩ := Option.map_eq_some_iff.mp e
  refine h.ev ρ ds e1 G H σ x Q fun p us G2 H2 f n1 n2 h2 hl r => ?_
  have g2 : Ex (upd G2 p (.lst us)) H2 := fun a o z => by
    by_cases q : a = p
    · rw [q, upd_same] at z; rw [q]; cases z; exact h2
    · rw [upd_ne q] at z; exact f.gh _ _ z
  refine k (.ref p) (upd G2 p (.lst us)) H2 ⟨f.g.trans (Ex.new n2), g2, f.h, fun a h1 h2 => ?_⟩ (.sq upd_same hl (r.mono (Ex.new n2)))
  have : a ≠ p := fun z => h1 (z ▸ n1)
  rw [upd_ne this]
  exact f.nw a h1 h2⟩
theorem OwD.vi (h : OwD X e t ψ) : ViD X e t (fun ρ => (ψ ρ).map (D.seq true)) := h.pu.vi
end
end L2.Tr

/-! Trees: rules for expressions. -/
namespace L2.Tr
open PySem PySem.Spec PyProof.Rows
theorem lim_line {n : Nat} (h : n ≤ 2 * Lim) : n ≤ sizeLine := by rw [sizeLine_eq]; have : Lim = 5000 := rfl; omega
/-! ### names, constants -/
def atP (i : Nat) : Env → Option D := fun ρ => match ρ[i]? with
  | some (Sl.pu d) => some d
  | _ => none
def atV (i : Nat) : Env → Option D := fun ρ => match ρ[i]? with
  | some (Sl.pu d) => some d
  | some (.ow d) => some d
  | _ => none
def kD (d : D) : Env → Option D := fun _ => some d
section
variable {X : Cx} {e a b : Expr} {t ta tb : TE} {φ φa φb : Env → Option D}
theorem pu_var {i : Nat} {x : Str} {pos : Pos} (h : PE X (.Name x pos) (tVar i)) : PuD X (.Name x pos) (tVar i) (atP i) := ⟨h, fun ρ d e G H σ x Q k => by
  unfold atP at e
  split at e
  · rename_i d' h1
    cases e
    obtain ⟨v, h2, h3⟩ := x.pu i _ h1
    exact ⟨v, h2, k v G H (.refl x.gh) h3⟩
  · cases e⟩
theorem vi_var {i : Nat} {x : Str} {pos : Pos} (h : PE X (.Name x pos) (tVar i)) : ViD X (.Name x pos) (tVar i) (atV i) := ⟨h, fun ρ d e G H σ x Q k => by
  unfold atV at e
  split at e
  · rename_i d' h1
    cases e
    obtain ⟨v, h2, h3⟩ := x.pu i _ h1
    exact ⟨v, h2, k v G H (.refl x.gh) (.inl h3)⟩
  · rename_i ds h1
    cases e
    obtain ⟨p, o, h2, h3, h4, h5⟩ := x.ow i _ h1
    exact ⟨_, h2, k _ G H (.refl x.gh) (.inr ⟨p, o, rfl, h4, h5⟩)⟩
  · cases e⟩
theorem pu_c {v : V} (h : PE X e (tC v)) (lf : leafy v = true) : PuD X e (tC v) (kD (.leaf v)) := ⟨h, fun ρ d e G H σ x Q k => by
  cases e
  exact k v G H (.refl x.gh) (.lf lf)⟩
/-! ### operators -/
def R2D (r : R2) (op : D → D → Option D) : Prop := ∀ d1 d2 z, op d1 d2 = some z → ∀ (G H : Hp) (v1 v2 : V), Ex G H → View G H d1 v1 → View G H d2 v2 → ∀ Q : VK, (∀ v G2 H2, Fr G H G2 H2 → Rep G2 z v → Q v H2) → r v1 v2 H Q
def R2O (r : R2) (op : D → D → Option (List D)) : Prop := ∀ d1 d2 z, op d1 d2 = some z → ∀ (G H : Hp) (v1 v2 : V), Ex G H → View G H d1 v1 → View G H d2 v2 → ∀ Q : VK,
  (∀ p us G2 H2, Fr G H G2 H2 → H p = none → G2 p = none → H2 p = some (.lst us) → z.length ≤ Lim → Reps G2 z us → Q (.ref p) H2) → r v1 v2 H Q
def bin2 {β : Type} (op : D → D → Option β) (φa φb : Env → Option D) : Env → Option β := fun ρ => (φa ρ).bind fun x => (φb ρ).bind fun y => op x y
theorem bin2_un {β : Type} {op : D → D → Option β} {ρ : Env} {z : β} (h : bin2 op φa φb ρ = some z) : ∃ x y, φa ρ = some x ∧ φb ρ = some y ∧ op x y = some z := by
  unfold bin2 at h
  obtain ⟨x, h1, h2⟩ := Option.bind_eq_some_iff.mp h
  obtain ⟨y, h3, h4⟩ := Option.bind_eq_some_iff.mp h2
  exact ⟨x, y, h1, h3, h4⟩
theorem op_ev {r : R2} {op : D → D → Option D} (hd : R2D r op) (ha : ViS ta φa) (hb : ViS tb φb) : PuS (tOp r ta tb) (bin2 op φa φb) := fun ρ d e G H σ x Q k => by
  obtain ⟨d1, d2, e1, e2, e3⟩ := bin2_un e
  refine ha ρ d1 e1 G H σ x _ fun v1 G1 H1 f1 r1 => ?_
  refine hb ρ d2 e2 G1 H1 σ (x.mono f1) _ fun v2 G2 H2 f2 r2 => ?_
  exact hd d1 d2 d e3 G2 H2 v1 v2 f2.gh (r1.mono f2) r2 Q fun v G3 H3 f3 r3 => k v G3 H3 (f1.trans (f2.trans f3)) r3
theorem op_evO {r : R2} {op : D → D → Option (List D)} (hd : R2O r op) (ha : ViS ta φa) (hb : ViS tb φb) : OwS (tOp r ta tb) (bin2 op φa φb) := fun ρ d e G H σ x Q k => by
  obtain ⟨d1, d2, e1, e2, e3⟩ := bin2_un e
  refine ha ρ d1 e1 G H σ x _ fun v1 G1 H1 f1 r1 => ?_
  refine hb ρ d2 e2 G1 H1 σ (x.mono f1) _ fun v2 G2 H2 f2 r2 => ?_
  exact hd d1 d2 d e3 G2 H2 v1 v2 f2.gh (r1.mono f2) r2 Q fun p us G3 H3 f3 n1 n2 h l r3 => k p us G3 H3 (f1.trans (f2.trans f3)) ((f1.trans f2).ne n1) n2 h l r3
theorem R2D.or {r r' : R2} {op op' : D → D → Option D} (h : R2D r op) (h' : R2D r' op') : R2D (fun x y H Q => r x y H Q ∨ r' x y H Q) (fun x y => (op x y).or (op' x y)) := fun d1 d2 z e G H v1 v2 x r1 r2 Q k => by
  cases e1 : op d1 d2 with
  | some w =>
    have : w = z := by simpa [e1] using e
    subst this
    exact .inl (h d1 d2 w e1 G H v1 v2 x r1 r2 Q k)
  | none =>
    have e' : op' d1 d2 = some z := by simpa [e1] using e
    exact .inr (h' d1 d2 z e' G H v1 v2 x r1 r2 Q k)
theorem pu_op {op : Operator} {r : R2} {o : D → D → Option D} {pos : Pos} (ho : OpR X (binaryOp op) r) (hd : R2D r o) (ha : ViD X a ta φa) (hb : ViD X b tb φb) : PuD X (.BinOp a op b pos) (tOp r ta tb) (bin2 o φa φb) := ⟨pe_op ho ha.pe hb.pe, op_ev hd ha.ev hb.ev⟩
theorem ow_op {op : Operator} {r : R2} {o : D → D → Option (List D)} {pos : Pos} (ho : OpR X (binaryOp op) r) (hd : R2O r o) (ha : ViD X a ta φa) (hb : ViD X b tb φb) : OwD X (.BinOp a op b pos) (tOp r ta tb) (bin2 o φa φb) := ⟨pe_op ho ha.pe hb.pe, op_evO hd ha.ev hb.ev⟩
theorem pu_cmp {op : CmpOp} {r : R2} {o : D → D → Option D} {pos : Pos} (ho : OpR X (compareOp op) r) (hd : R2D r o) (hm : behindInMarks op b = false) (ha : ViD X a ta φa) (hb : ViD X b tb φb) : PuD X (.Compare a [op] [b] pos) (tOp r ta tb) (bin2 o φa φb) := ⟨pe_cmpR ho ha.pe hb.pe hm, op_ev hd ha.ev hb.ev⟩
/-! ### the operators by trees -/
def intI (g : Int → Int → V) : D → D → Option D
  | .leaf (.int i), .leaf (.int j) => some (.leaf (g i j))
  | _, _ => none
theorem r2_I0 {g : Int → Int → V} (lf : ∀ i j, leafy (g i j) = true) : R2D (rI0 g) (intI g) := fun d1 d2 z e G H v1 v2 x r1 r2 Q k => by
  unfold intI at e
  split at e
  · cases e
    obtain ⟨rfl, _⟩ := r1.lf
    obtain ⟨rfl, _⟩ := r2.lf
    exact ⟨_, _, rfl, rfl, k _ G H (.refl x) (.lf (lf _ _))⟩
  · cases e
def strCat : D → D → Option D
  | .leaf (.str i), .leaf (.str j) => if i.length + j.length ≤ 1000 then some (.leaf (.str (i ++ j))) else none
  | _, _ => none
theorem r2_str : R2D (fun x y H Q => ∃ i j, x = .str i ∧ y = .str j ∧ i.length + j.length ≤ sizeLine ∧ Q (.str (i ++ j)) H) strCat := fun d1 d2 z e G H v1 v2 x r1 r2 Q k => by
  unfold strCat at e
  split at e
  · rename_i i j
    split at e
    · rename_i hl
      cases e
      obtain ⟨rfl, _⟩ := r1.lf
      obtain ⟨rfl, _⟩ := r2.lf
      refine ⟨_, _, rfl, rfl, by rw [sizeLine_eq]; omega, k _ G H (.refl x) (.lf ?_)⟩
      show decide ((i ++ j).length ≤ 1000) = true
      rw [PySem.Str.length_append]
      exact decide_eq_true hl
    · cases e
  · cases e
def lstCatO : D → D → Option (List D)
  | .seq true xs, .seq true ys => if xs.length + ys.length ≤ Lim then some (xs ++ ys) else none
  | _, _ => none
def lstCat (a b : D) : Option D := (lstCatO a b).map (D.seq true)
theorem r2_catO : R2O rCat lstCatO := fun d1 d2 z e G H v1 v2 x r1 r2 Q k => by
  unfold lstCatO at e
  split at e
  · rename_i xs ys
    split at e
    · rename_i hl
      cases e
      obtain ⟨a1, us, rfl, h1, l1, q1⟩ := r1.seq x
      obtain ⟨a2, ws, rfl, h2, l2, q2⟩ := r2.seq x
      have hl2 : (us ++ ws).length ≤ Lim := by rw [List.length_append, q1.len, q2.len]; exact hl
      refine ⟨a1, a2, us, ws, rfl, rfl, h1, h2, ?_, fun p np => k p _ G _ (.tmp x np) np (x.back np) upd_same (by rw [List.length_append]; exact hl) (q1.app q2)⟩
      rw [q1.len, q2.len]
      exact lim_line (by omega)
    · cases e
  · cases e
/-- what is a new list may be kept -/
theorem R2O.d {r : R2} {op : D → D → Option (List D)} (h : R2O r op) : R2D r (fun x y => (op x y).map (D.seq true)) := fun d1 d2 z e G H v1 v2 x r1 r2 Q k => by
  obtain ⟨ds, e1, rfl⟩ := Option.map_eq_some_iff.mp e
  refine h d1 d2 ds e1 G H v1 v2 x r1 r2 Q fun p us G2 H2 f n1 n2 h2 hl r => ?_
  have g2 : Ex (upd G2 p (.lst us)) H2 := fun a o z => by
    by_cases q : a = p
    · rw [q, upd_same] at z; rw [q]; cases z; exact h2
    · rw [upd_ne q] at z; exact f.gh _ _ z
  refine k (.ref p) (upd G2 p (.lst us)) H2 ⟨f.g.trans (Ex.new n2), g2, f.h, fun a h1 h2 => ?_⟩ (.sq upd_same hl (r.mono (Ex.new n2)))
  have : a ≠ p := fun z => h1 (z ▸ n1)
  rw [upd_ne this]
  exact f.nw a h1 h2
def tupCat : D → D → Option D
  | .seq false xs, .seq false ys => if xs.length + ys.length ≤ Lim then some (.seq false (xs ++ ys)) else none
  | _, _ => none
theorem r2_catT {K : PySem.W.Frag} : R2D (rCatA K) tupCat := fun d1 d2 z e G H v1 v2 x r1 r2 Q k => by
  unfold tupCat at e
  split at e
  · rename_i xs ys
    split at e
    · rename_i hl
      cases e
      have p1 := r1.tup
      have p2 := r2.tup
      obtain ⟨a1, us, rfl, h1, l1, q1⟩ := p1.un_sq
      obtain ⟨a2, ws, rfl, h2, l2, q2⟩ := p2.un_sq
      have e1 := q1.len
      have e2 := q2.len
      refine ⟨a1, a2, us, ws, rfl, rfl, SqT.of (x _ _ h1), SqT.of (x _ _ h2), lim_line (by omega), fun z => ?_, fun z1 z2 => ?_, fun z1 z2 p np => ?_⟩
      · subst z
        have : xs = [] := List.length_eq_zero_iff.mp e1.symm
        subst this
        exact k _ G H (.refl x) p2
      · subst z2
        have : ys = [] := List.length_eq_zero_iff.mp e2.symm
        subst this
        rw [List.append_nil] at k
        exact k _ G H (.refl x) p1
      · refine k _ _ _ (.new x np) (.sq (b := false) upd_same (by rw [List.length_append]; exact hl) ((q1.app q2).mono (Ex.new (x.back np))))
    · cases e
  · cases e
/-- + -/
def addD (x y : D) : Option D := (intI (fun i j => .int (i + j)) x y).or ((strCat x y).or (((lstCatO x y).map (D.seq true)).or (tupCat x y)))
def addR (K : PySem.W.Frag) : R2 := fun x y H Q => rI0 (fun i j => .int (i + j)) x y H Q ∨ ((∃ i j, x = .str i ∧ y = .str j ∧ i.length + j.length ≤ sizeLine ∧ Q (.str (i ++ j)) H) ∨ (rCat x y H Q ∨ rCatA K x y H Q))
theorem pu_add {pos : Pos} (ha : ViD X a ta φa) (hb : ViD X b tb φb) : PuD X (.BinOp a .Add b pos) (tOp (addR X.K) ta tb) (bin2 addD φa φb) :=
  pu_op (OpR.or op_add (OpR.or op_add_str (OpR.or op_cat op_catA))) (R2D.or (r2_I0 fun _ _ => rfl) (R2D.or r2_str (R2D.or r2_catO.d r2_catT))) ha hb
theorem ow_add {pos : Pos} (ha : ViD X a ta φa) (hb : ViD X b tb φb) : OwD X (.BinOp a .Add b pos) (tOp rCat ta tb) (bin2 lstCatO φa φb) := ow_op op_cat r2_catO ha hb
theorem pu_sub {pos : Pos} (ha : ViD X a ta φa) (hb : ViD X b tb φb) : PuD X (.BinOp a .Sub b pos) (tOp (rI0 fun i j => .int (i - j)) ta tb) (bin2 (intI fun i j => .int (i - j)) φa φb) := pu_op op_sub (r2_I0 fun _ _ => rfl) ha hb
/-- [..] * n -/
def repO : D → D → Option (List D)
  | .seq true xs, .leaf (.int n) => if 0 ≤ n ∧ n ≤ 100 ∧ xs.length ≤ 10 then some (List.replicate n.toNat xs).flatten else none
  | _, _ => none
theorem reps_flat {H : Hp} {xs : List D} {us : List V} (h : Reps H xs us) : ∀ n : Nat, Reps H (List.replicate n xs).flatten (List.replicate n us).flatten
  | 0 => .nil
  | n + 1 => by
    rw [List.replicate_succ, List.replicate_succ, List.flatten_cons, List.flatten_cons]
    exact h.app (reps_flat h n)
theorem flat_len {α : Type} (xs : List α) : ∀ n : Nat, (List.replicate n xs).flatten.length = n * xs.length
  | 0 => by simp
  | n + 1 => by rw [List.replicate_succ, List.flatten_cons, List.length_append, flat_len xs n, Nat.succ_mul]; omega
theorem r2_rep : R2O rRep repO := fun d1 d2 z e G H v1 v2 x r1 r2 Q k => by
  unfold repO at e
  split at e
  · rename_i xs n
    split at e
    · rename_i hl
      cases e
      obtain ⟨a1, us, rfl, h1, l1, q1⟩ := r1.seq x
      obtain ⟨rfl, _⟩ := r2.lf
      obtain ⟨h2, h3, h4⟩ := hl
      have e1 := q1.len
      have b : n.toNat * xs.length ≤ 100 * 10 := Nat.mul_le_mul (by omega) h4
      refine ⟨a1, n, us, rfl, rfl, h1, by omega, by omega, ?_, fun p np => k p _ G _ (.tmp x np) np (x.back np) upd_same ?_ (reps_flat q1 _)⟩
      · rw [e1, Nat.mul_comm]; exact lim_line (by have : Lim = 5000 := rfl; omega)
      · rw [flat_len]; have : Lim = 5000 := rfl; omega
    · cases e
  · cases e
theorem ow_rep {pos : Pos} (ha : ViD X a ta φa) (hb : ViD X b tb φb) : OwD X (.BinOp a .Mult b pos) (tOp rRep ta tb) (bin2 repO φa φb) := ow_op op_rep r2_rep ha hb
/-! ### comparisons -/
def bD (b : Bool) : D := .leaf (.bl b)
def scD (neg : Bool) : D → D → Option D
  | .leaf x, .leaf y => if scal x y = true then some (bD (xor neg (decide (x = y)))) else none
  | _, _ => none
theorem r2_eqS : R2D rEq (scD false) := fun d1 d2 z e G H v1 v2 x r1 r2 Q k => by
  unfold scD at e
  split at e
  · split at e
    · rename_i hs
      cases e
      obtain ⟨rfl, _⟩ := r1.lf
      obtain ⟨rfl, _⟩ := r2.lf
      exact ⟨hs, k _ G H (.refl x) (by rw [Bool.false_xor]; exact .lf rfl)⟩
    · cases e
  · cases e
theorem r2_neS : R2D rNe (scD true) := fun d1 d2 z e G H v1 v2 x r1 r2 Q k => by
  unfold scD at e
  split at e
  · split at e
    · rename_i hs
      cases e
      obtain ⟨rfl, _⟩ := r1.lf
      obtain ⟨rfl, _⟩ := r2.lf
      exact ⟨hs, k _ G H (.refl x) (by rw [Bool.true_xor]; exact .lf rfl)⟩
    · cases e
  · cases e
/-- is None -/
def isN (neg : Bool) : D → D → Option D
  | .leaf x, .leaf .non => some (bD (xor neg (decide (x = .non))))
  | .seq _ _, .leaf .non => some (bD neg)
  | .dct _ _, .leaf .non => some (bD neg)
  | .obj _ _ _, .leaf .non => some (bD neg)
  | _, _ => none
theorem isn_ref {G H : Hp} {d : D} {v : V} (h : View G H d v) (n : ∀ x, d ≠ .leaf x) : ∃ a, v = .ref a := by
  rcases h with h | ⟨a, o, h, _⟩
  · cases d with
    | leaf x => exact absurd rfl (n x)
    | seq b ds => obtain ⟨a, _, h, _⟩ := h.un_sq; exact ⟨a, h⟩
    | dct ks ds => obtain ⟨a, _, h, _⟩ := h.un_dct; exact ⟨a, h⟩
    | obj C ns ds => obtain ⟨a, _, _, h, _⟩ := h.un_obj; exact ⟨a, h⟩
    | frz ks ds => obtain ⟨a, _, _, h, _⟩ := h.un_frz; exact ⟨a, h⟩
  · exact ⟨a, h⟩
theorem isn_any {neg : Bool} {d1 d2 z : D} (e : isN neg d1 d2 = some z) {G H : Hp} {v1 v2 : V} (r1 : View G H d1 v1) (r2 : View G H d2 v2) : v2 = .non ∧ z = bD (xor neg (decide (v1 = .non))) := by
  unfold isN at e
  split at e
  · cases e
    obtain ⟨rfl, _⟩ := r1.lf
    exact ⟨r2.lf.1, rfl⟩
  all_goals first
    | (cases e
       obtain ⟨a, rfl⟩ := isn_ref r1 (fun x z => by cases z)
       refine ⟨r2.lf.1, ?_⟩
       rw [decide_eq_false (fun z => by cases z), Bool.xor_false])
    | cases e
theorem r2_isN : R2D (fun x y H Q => y = .non ∧ Q (.bl (decide (x = .non))) H) (isN false) := fun d1 d2 z e G H v1 v2 x r1 r2 Q k => by
  obtain ⟨h1, rfl⟩ := isn_any e r1 r2
  exact ⟨h1, k _ G H (.refl x) (by rw [Bool.false_xor]; exact .lf rfl)⟩
theorem r2_notN : R2D (fun x y H Q => y = .non ∧ Q (.bl (!decide (x = .non))) H) (isN true) := fun d1 d2 z e G H v1 v2 x r1 r2 Q k => by
  obtain ⟨h1, rfl⟩ := isn_any e r1 r2
  exact ⟨h1, k _ G H (.refl x) (by rw [Bool.true_xor]; exact .lf rfl)⟩
/-- in a list, a tuple of leaves -/
def noR : V → Bool
  | .ref _ => false
  | _ => true
def leaves : List D → Option (List V)
  | [] => some []
  | .leaf x :: r => if noR x = true then (leaves r).map (x :: ·) else none
  | _ :: _ => none
theorem leaves_map : ∀ (vs : List V), vs.all noR = true → leaves (vs.map D.leaf) = some vs
  | [], _ => rfl
  | v :: r, h => by
    rw [List.all_cons, Bool.and_eq_true] at h
    rw [List.map_cons, leaves, if_pos h.1, leaves_map r h.2]; rfl
theorem leaves_un : ∀ {ds : List D} {vs : List V}, leaves ds = some vs → ds = vs.map D.leaf
  | [], vs, h => by cases h; rfl
  | .leaf x :: r, vs, h => by
    rw [leaves] at h
    split at h
    · obtain ⟨ws, h1, rfl⟩ := Option.map_eq_some_iff.mp h
      rw [leaves_un h1]; rfl
    · cases h
  | .seq _ _ :: _, vs, h => by simp [leaves] at h
  | .dct _ _ :: _, vs, h => by simp [leaves] at h
  | .obj _ _ _ :: _, vs, h => by simp [leaves] at h
  | .frz _ _ :: _, vs, h => by simp [leaves] at h
theorem leaves_no : ∀ {ds : List D} {vs : List V}, leaves ds = some vs → ∀ v ∈ vs, noR v = true
  | [], vs, h => by cases h; exact fun _ z => by cases z
  | .leaf x :: r, vs, h => by
    rw [leaves] at h
    split at h
    · rename_i hx
      obtain ⟨ws, h1, rfl⟩ := Option.map_eq_some_iff.mp h
      exact fun v hv => (List.mem_cons.mp hv).elim (fun z => z ▸ hx) (leaves_no h1 v)
    · cases h
  | .seq _ _ :: _, vs, h => by simp [leaves] at h
  | .dct _ _ :: _, vs, h => by simp [leaves] at h
  | .obj _ _ _ :: _, vs, h => by simp [leaves] at h
  | .frz _ _ :: _, vs, h => by simp [leaves] at h
theorem leafy_flat : ∀ {v : V}, noR v = true → leafy v = true → flatV v = true
  | .non, _, _ => rfl
  | .bl _, _, _ => rfl
  | .int _, _, _ => rfl
  | .str _, _, _ => rfl
theorem reps_leafy {H : Hp} : ∀ {vs us : List V}, Reps H (vs.map D.leaf) us → us = vs ∧ ∀ v ∈ vs, leafy v = true
  | [], us, h => ⟨h.un0, fun _ z => by cases z⟩
  | v :: r, us, h => by
    obtain ⟨u, s, rfl, q, t⟩ := h.un
    obtain ⟨e, k⟩ := reps_leafy t
    rw [e, q.un_lf.1]
    exact ⟨rfl, fun w hw => (List.mem_cons.mp hw).elim (fun z => z ▸ q.un_lf.2) (k w)⟩
def inD (neg : Bool) : D → D → Option D
  | .leaf x, .seq _ ds => if noR x = true then (leaves ds).map fun vs => bD (xor neg (inV x vs)) else none
  | _, _ => none
theorem r2_in {K : PySem.W.Frag} {neg : Bool} : R2D (rIn K neg) (inD neg) := fun d1 d2 z e G H v1 v2 x r1 r2 Q k => by
  unfold inD at e
  split at e
  · rename_i w b ds
    split at e
    rotate_left
    · cases e
    rename_i hx
    obtain ⟨vs, h1, rfl⟩ := Option.map_eq_some_iff.mp e
    have hno := leaves_no h1
    obtain rfl := leaves_un h1
    obtain ⟨rfl, lf⟩ := r1.lf
    obtain ⟨a2, ws, rfl, h2, l2, q2⟩ := r2.seq x
    obtain ⟨rfl, lfs⟩ := reps_leafy q2
    refine ⟨a2, ws, rfl, ?_, leafy_flat hx lf, List.all_eq_true.mpr fun v hv => leafy_flat (hno v hv) (lfs v hv), k _ G H (.refl x) ?_⟩
    · cases b with
      | true => exact .inl (SqL.of h2)
      | false => exact .inr (SqT.of h2)
    · cases neg with
      | true => rw [Bool.true_xor]; exact .lf rfl
      | false => rw [Bool.false_xor]; exact .lf rfl
  · cases e
def inSD : D → D → Option D
  | .leaf (.str u), .leaf (.str z) => if u.cps.size = 1 then some (bD (decide (u.cps.getD 0 0 ∈ z.cps.toList))) else none
  | _, _ => none
theorem r2_inS : R2D rInS inSD := fun d1 d2 z e G H v1 v2 x r1 r2 Q k => by
  unfold inSD at e
  split at e
  · split at e
    · rename_i u z' hs
      cases e
      obtain ⟨rfl, _⟩ := r1.lf
      obtain ⟨rfl, _⟩ := r2.lf
      refine ⟨u.cps.getD 0 0, z', ?_, rfl, k _ G H (.refl x) (.lf rfl)⟩
      obtain ⟨l⟩ := u
      obtain ⟨l⟩ := l
      match l, hs with
      | [c], _ => rfl
    · cases e
  · cases e
/-! ### subscripts -/
def ixD : D → D → Option D
  | .seq _ ds, .leaf (.int i) => atI ds i
  | _, _ => none
theorem atI_rep {H : Hp} {ds : List D} {us : List V} {i : Int} {d : D} (h : Reps H ds us) (e : atI ds i = some d) : ∃ u, atI us i = some u ∧ Rep H d u := by
  unfold atI at e ⊢
  rw [h.len]
  obtain ⟨j, h1, h2⟩ := Option.bind_eq_some_iff.mp e
  obtain ⟨u, h3, h4⟩ := h.get h2
  exact ⟨u, by rw [h1]; exact h3, h4⟩
theorem r2_ix {K : PySem.W.Frag} : R2D (rIx K) ixD := fun d1 d2 z e G H v1 v2 x r1 r2 Q k => by
  unfold ixD at e
  split at e
  · rename_i b ds i
    obtain ⟨a1, us, rfl, h1, l1, q1⟩ := r1.seq x
    obtain ⟨rfl, _⟩ := r2.lf
    obtain ⟨u, h2, h3⟩ := atI_rep q1 e
    have kk := k u G H (.refl x) h3
    cases b with
    | true => exact .inl ⟨a1, us, i, u, rfl, rfl, SqL.of h1, h2, kk⟩
    | false => exact .inr (.inl ⟨a1, us, i, u, rfl, rfl, SqT.of h1, h2, kk⟩)
  · cases e
theorem pu_ix {pos : Pos} (ha : ViD X a ta φa) (hb : ViD X b tb φb) (hs : PlainIx b) : PuD X (.Subscript a b pos) (tOp (rIx X.K) ta tb) (bin2 ixD φa φb) := ⟨pe_ix ix_seq ha.pe hb.pe hs, op_ev r2_ix ha.ev hb.ev⟩
/-- d[k] -/
def getK : List Key → List D → Key → Option D
  | k :: ks, d :: ds, x => if k = x then some d else getK ks ds x
  | _, _, _ => none
theorem getK_rep {H : Hp} {x : Key} {d : D} : ∀ {ks : List Key} {ds : List D} {us : List V}, Reps H ds us → getK ks ds x = some d → ∃ u, valV (ks.zip us) x = some u ∧ Rep H d u
  | [], ds, us, h, e => by simp [getK] at e
  | k :: ks, [], us, h, e => by simp [getK] at e
  | k :: ks, d0 :: ds, us, h, e => by
    obtain ⟨u, r, rfl, q, t⟩ := h.un
    rw [getK] at e
    rw [List.zip_cons_cons]
    split at e
    · rename_i hk
      cases e
      exact ⟨u, valV_pos hk, q⟩
    · rename_i hk
      rw [valV_neg hk]
      exact getK_rep t e
def keyD : D → Option Key
  | .leaf (.int i) => some (.inl i)
  | .leaf (.str x) => some (.inr x)
  | _ => none
def dgD : D → D → Option D
  | .dct ks ds, y => (keyD y).bind (getK ks ds)
  | .frz ks ds, y => (keyD y).bind (getK ks ds)
  | _, _ => none
theorem keyD_kV {d : D} {k : Key} {G H : Hp} {v : V} (h : keyD d = some k) (r : View G H d v) : v = kV k := by
  cases d with
  | leaf x =>
    obtain ⟨rfl, _⟩ := r.lf
    cases v with
    | int i => cases h; rfl
    | str i => cases h; rfl
    | _ => cases h
  | _ => cases h
theorem pu_dg {pos : Pos} (hu : X.A.units + 1 < cLine) (ha : ViD X a ta φa) (hb : ViD X b tb φb) (hs : NoSl b) : PuD X (.Subscript a b pos) (tDGet ta tb) (bin2 dgD φa φb) := ⟨pe_dget hu ha.pe hb.pe hs, fun ρ d e G H σ x Q k => by
  obtain ⟨d1, d2, e1, e2, e3⟩ := bin2_un e
  refine ha.ev ρ d1 e1 G H σ x _ fun v1 G1 H1 f1 r1 => ?_
  refine hb.ev ρ d2 e2 G1 H1 σ (x.mono f1) _ fun v2 G2 H2 f2 r2 => ?_
  unfold dgD at e3
  split at e3
  · rename_i ks ds y
    obtain ⟨kk, h1, h2⟩ := Option.bind_eq_some_iff.mp e3
    obtain ⟨p, us, rfl, hp, _, _, rs⟩ := (r1.mono f2).dct f2.gh
    obtain rfl := keyD_kV h1 r2
    obtain ⟨u, h3, h4⟩ := getK_rep rs h2
    refine ⟨p, u, rfl, ?_, k u G2 H2 (f1.trans f2) h4⟩
    rw [← h3]
    exact DGet.k hp
  · rename_i ks ds y
    obtain ⟨kk, h1, h2⟩ := Option.bind_eq_some_iff.mp e3
    obtain ⟨p, us, o, rfl, hp, _, _, rs⟩ := ((r1.mono f2).frz).un_frz
    obtain rfl := keyD_kV h1 r2
    obtain ⟨u, h3, h4⟩ := getK_rep rs h2
    refine ⟨p, u, rfl, ?_, k u G2 H2 (f1.trans f2) h4⟩
    rw [← h3]
    exact .inl ⟨_, _, .inr ⟨o, f2.gh _ _ hp⟩, rfl, rfl⟩
  · cases e3⟩
end
end L2.Tr

/-! Trees: calls, tests, slices, displays. -/
namespace L2.Tr
open PySem PySem.Spec PyProof.Rows
section
variable {X : Cx} {e a b c : Expr} {es : List Expr} {t ta tb tc : TE} {φ φa φb φc : Env → Option D} {ψ ψa ψb : Env → Option (List D)}
/-! ### arguments -/
def Views (G H : Hp) : List D → List V → Prop
  | [], us => us = []
  | d :: ds, us => ∃ u r, us = u :: r ∧ View G H d u ∧ Views G H ds r
theorem Views.mono {G H G2 H2 : Hp} (f : Fr G H G2 H2) : ∀ {ds : List D} {us : List V}, Views G H ds us → Views G2 H2 ds us
  | [], _, h => h
  | d :: ds, us, ⟨u, r, h1, h2, h3⟩ => ⟨u, r, h1, h2.mono f, h3.mono f⟩
def AvS (t : TA) (φ : Env → Option (List D)) : Prop := ∀ ρ ds, φ ρ = some ds → ∀ (G H : Hp) (σ : St), EnvOk G H σ ρ → ∀ Q : List V → Hp → Prop, (∀ vs G2 H2, Fr G H G2 H2 → Views G2 H2 ds vs → Q vs H2) → t σ H Q
structure AvD (X : Cx) (es : List Expr) (t : TA) (φ : Env → Option (List D)) : Prop where
  pa : PA X es t
  ev : AvS t φ
def nilD : Env → Option (List D) := fun _ => some []
def consD (φ : Env → Option D) (ψ : Env → Option (List D)) : Env → Option (List D) := fun ρ => (φ ρ).bind fun x => (ψ ρ).map (x :: ·)
theorem consD_un {ρ : Env} {z : List D} (h : consD φ ψ ρ = some z) : ∃ x xs, φ ρ = some x ∧ ψ ρ = some xs ∧ z = x :: xs := by
  unfold consD at h
  obtain ⟨x, h1, h2⟩ := Option.bind_eq_some_iff.mp h
  obtain ⟨xs, h3, h4⟩ := Option.map_eq_some_iff.mp h2
  exact ⟨x, xs, h1, h3, h4.symm⟩
theorem av_nil : AvD X [] tNil nilD := ⟨pa_nil, fun ρ d e G H σ x Q k => by cases e; exact k [] G H (.refl x.gh) rfl⟩
theorem av_cons {tr : TA} (h : ViD X e t φ) (r : AvD X es tr ψ) (hs : starEach (e :: es) X.env = (false, eval e X.env) :: starEach es X.env := by rfl) : AvD X (e :: es) (tCons t tr) (consD φ ψ) := ⟨pa_cons h.pe r.pa hs, fun ρ d e G H σ x Q k => by
  obtain ⟨y, ys, e1, e2, rfl⟩ := consD_un e
  refine h.ev ρ y e1 G H σ x _ fun v G1 H1 f1 r1 => ?_
  exact r.ev ρ ys e2 G1 H1 σ (x.mono f1) _ fun vs G2 H2 f2 r2 => k _ G2 H2 (f1.trans f2) ⟨v, vs, rfl, r1.mono f2, r2⟩⟩
theorem ar_nil : ArD X [] tNil nilD := ⟨pa_nil, fun ρ d e G H σ x Q k => by cases e; exact k [] G H (.refl x.gh) .nil⟩
theorem ar_cons {tr : TA} (h : PuD X e t φ) (r : ArD X es tr ψ) (hs : starEach (e :: es) X.env = (false, eval e X.env) :: starEach es X.env := by rfl) : ArD X (e :: es) (tCons t tr) (consD φ ψ) := ⟨pa_cons h.pe r.pa hs, fun ρ d e G H σ x Q k => by
  obtain ⟨y, ys, e1, e2, rfl⟩ := consD_un e
  refine h.ev ρ y e1 G H σ x _ fun v G1 H1 f1 r1 => ?_
  exact r.ev ρ ys e2 G1 H1 σ (x.mono f1) _ fun vs G2 H2 f2 r2 => k _ G2 H2 (f1.trans f2) (.cons (r1.mono f2.g) r2)⟩
/-! ### calls of what is built in -/
def R1D (r : List V → Hp → VK → Prop) (op : List D → Option D) : Prop := ∀ ds z, op ds = some z → ∀ (G H : Hp) (vs : List V), Ex G H → Views G H ds vs → ∀ Q : VK, (∀ v G2 H2, Fr G H G2 H2 → Rep G2 z v → Q v H2) → r vs H Q
def R1O (r : List V → Hp → VK → Prop) (op : List D → Option (List D)) : Prop := ∀ ds z, op ds = some z → ∀ (G H : Hp) (vs : List V), Ex G H → Views G H ds vs → ∀ Q : VK,
  (∀ p us G2 H2, Fr G H G2 H2 → H p = none → G2 p = none → H2 p = some (.lst us) → z.length ≤ Lim → Reps G2 z us → Q (.ref p) H2) → r vs H Q
def app1 {β : Type} (op : List D → Option β) (ψ : Env → Option (List D)) : Env → Option β := fun ρ => (ψ ρ).bind op
theorem cb_ev {r : List V → Hp → VK → Prop} {op : List D → Option D} {tr : TA} (hd : R1D r op) (h : AvS tr ψ) : PuS (tCB r tr) (app1 op ψ) := fun ρ d e G H σ x Q k => by
  obtain ⟨ds, e1, e2⟩ := Option.bind_eq_some_iff.mp e
  exact h ρ ds e1 G H σ x _ fun vs G1 H1 f1 r1 => hd ds d e2 G1 H1 vs f1.gh r1 Q fun v G2 H2 f2 r2 => k v G2 H2 (f1.trans f2) r2
theorem cb_evO {r : List V → Hp → VK → Prop} {op : List D → Option (List D)} {tr : TA} (hd : R1O r op) (h : AvS tr ψ) : OwS (tCB r tr) (app1 op ψ) := fun ρ d e G H σ x Q k => by
  obtain ⟨ds, e1, e2⟩ := Option.bind_eq_some_iff.mp e
  exact h ρ ds e1 G H σ x _ fun vs G1 H1 f1 r1 => hd ds d e2 G1 H1 vs f1.gh r1 Q fun p us G2 H2 f2 n1 n2 h2 l r2 => k p us G2 H2 (f1.trans f2) (f1.ne n1) n2 h2 l r2
theorem R1D.or {r r' : List V → Hp → VK → Prop} {op op' : List D → Option D} (h : R1D r op) (h' : R1D r' op') : R1D (fun x H Q => r x H Q ∨ r' x H Q) (fun x => (op x).or (op' x)) := fun ds z e G H vs x r1 Q k => by
  cases e1 : op ds with
  | some w =>
    have : w = z := by simpa [e1] using e
    subst this
    exact .inl (h ds w e1 G H vs x r1 Q k)
  | none =>
    have e' : op' ds = some z := by simpa [e1] using e
    exact .inr (h' ds z e' G H vs x r1 Q k)
theorem R1O.or {r r' : List V → Hp → VK → Prop} {op op' : List D → Option (List D)} (h : R1O r op) (h' : R1O r' op') : R1O (fun x H Q => r x H Q ∨ r' x H Q) (fun x => (op x).or (op' x)) := fun ds z e G H vs x r1 Q k => by
  cases e1 : op ds with
  | some w =>
    have : w = z := by simpa [e1] using e
    subst this
    exact .inl (h ds w e1 G H vs x r1 Q k)
  | none =>
    have e' : op' ds = some z := by simpa [e1] using e
    exact .inr (h' ds z e' G H vs x r1 Q k)
section
variable {x id T : _} {p pos : Pos} {tr : TA} {r : List V → Hp → VK → Prop} {op : List D → Option D} {opO : List D → Option (List D)}
theorem pu_cb (hc : CallR X (.builtin id) r) (hd : R1D r op) (hg : Gl X x) (hm : X.mg x = none) (hv : bootBuiltins x = some (.builtin id)) (ha : AvD X (e :: es) tr ψ) (hn : x ≠ "__name__" := by decide) (hdb : (x == ("__debug__" : Str)) = false := by decide)
    (he : starEach (e :: es) X.env = (false, eval e X.env) :: starEach es X.env := by rfl) (hpl : (backTo pos (starEach es X.env)).any (·.1) = false := by rfl) : PuD X (.Call (.Name x p) (e :: es) [] pos) (tCB r tr) (app1 op ψ) := ⟨pe_callB hc hg hm hv ha.pa hn hdb he hpl, cb_ev hd ha.ev⟩
theorem pu_cty (hc : CallR X (.type T) r) (hd : R1D r op) (hg : Gl X x) (hm : X.mg x = none) (hv : bootBuiltins x = some (.type T)) (ha : AvD X (e :: es) tr ψ) (hn : x ≠ "__name__" := by decide) (hdb : (x == ("__debug__" : Str)) = false := by decide)
    (he : starEach (e :: es) X.env = (false, eval e X.env) :: starEach es X.env := by rfl) (hpl : (backTo pos (starEach es X.env)).any (·.1) = false := by rfl) : PuD X (.Call (.Name x p) (e :: es) [] pos) (tCB r tr) (app1 op ψ) := ⟨pe_callTy hc hg hm hv ha.pa hn hdb he hpl, cb_ev hd ha.ev⟩
theorem ow_cty (hc : CallR X (.type T) r) (hd : R1O r opO) (hg : Gl X x) (hm : X.mg x = none) (hv : bootBuiltins x = some (.type T)) (ha : AvD X (e :: es) tr ψ) (hn : x ≠ "__name__" := by decide) (hdb : (x == ("__debug__" : Str)) = false := by decide)
    (he : starEach (e :: es) X.env = (false, eval e X.env) :: starEach es X.env := by rfl) (hpl : (backTo pos (starEach es X.env)).any (·.1) = false := by rfl) : OwD X (.Call (.Name x p) (e :: es) [] pos) (tCB r tr) (app1 opO ψ) := ⟨pe_callTy hc hg hm hv ha.pa hn hdb he hpl, cb_evO hd ha.ev⟩
end
theorem views1 {G H : Hp} {d : D} {vs : List V} (h : Views G H [d] vs) : ∃ v, vs = [v] ∧ View G H d v := by
  obtain ⟨u, r, rfl, h1, rfl⟩ := h
  exact ⟨u, rfl, h1⟩
/-- len -/
def lenD : List D → Option D
  | [.leaf (.str x)] => some (.leaf (.int x.length))
  | [.seq _ ds] => some (.leaf (.int ds.length))
  | _ => none
theorem r1_len {K : PySem.W.Frag} : R1D (fun xs H Q => ∃ x n, xs = [x] ∧ LenV K x H n ∧ Q (.int n) H) lenD := fun ds z e G H vs x r1 Q k => by
  unfold lenD at e
  split at e
  · rename_i s
    cases e
    obtain ⟨v, rfl, r⟩ := views1 r1
    obtain ⟨rfl, lf⟩ := r.lf
    have hl : s.length ≤ 1000 := of_decide_eq_true lf
    exact ⟨_, s.length, rfl, ⟨by rw [sizeLine_eq]; omega, rfl⟩, k _ G H (.refl x) (.lf rfl)⟩
  · rename_i b ds
    cases e
    obtain ⟨v, rfl, r⟩ := views1 r1
    obtain ⟨a, us, rfl, h1, l1, q⟩ := r.seq x
    refine ⟨_, us.length, rfl, ?_, by rw [q.len]; exact k _ G H (.refl x) (.lf rfl)⟩
    cases b with
    | true => exact .inl ⟨us, SqL.of h1, rfl⟩
    | false => exact .inr ⟨us, SqT.of h1, rfl⟩
  · cases e
def lenK : List D → Option D
  | [.dct _ ds] => some (.leaf (.int ds.length))
  | _ => none
theorem r1_lenK : R1D (fun xs H Q => ∃ a kvs, xs = [V.ref a] ∧ H a = some (.dK kvs) ∧ Q (.int kvs.length) H) lenK := fun ds z e G H vs x r1 Q k => by
  unfold lenK at e
  split at e
  · rename_i ks ds
    cases e
    obtain ⟨v, rfl, r⟩ := views1 r1
    obtain ⟨a, us, rfl, h1, l0, l1, q⟩ := r.dct x
    refine ⟨a, _, rfl, h1, ?_⟩
    have : (ks.zip us).length = ds.length := by rw [List.length_zip, q.len, l0, Nat.min_self]
    rw [this]
    exact k _ G H (.refl x) (.lf rfl)
  · cases e
/-- list(..) -/
def lstO : List D → Option (List D)
  | [.seq _ ds] => some ds
  | _ => none
theorem r1_lst {K : PySem.W.Frag} : R1O (fun xs H Q => ∃ p ys, xs = [.ref p] ∧ (SqL K H p ys ∨ SqT K H p ys) ∧ ∀ l, H l = none → Q (.ref l) (upd H l (.lst ys))) lstO := fun ds z e G H vs x r1 Q k => by
  unfold lstO at e
  split at e
  · rename_i b ds
    cases e
    obtain ⟨v, rfl, r⟩ := views1 r1
    obtain ⟨a, us, rfl, h1, l1, q⟩ := r.seq x
    refine ⟨a, us, rfl, ?_, fun p np => k p us G _ (.tmp x np) np (x.back np) upd_same l1 q⟩
    cases b with
    | true => exact .inl (SqL.of h1)
    | false => exact .inr (SqT.of h1)
  · cases e
def keyV : Key → D
  | .inl i => .leaf (.int i)
  | .inr x => .leaf (.str x)
def okKey : Key → Bool
  | .inl _ => true
  | .inr x => decide (x.length ≤ 1000)
/-- list(a dict) -/
def lstK : List D → Option (List D)
  | [.dct ks _] => if ks.all okKey = true then some (ks.map keyV) else none
  | _ => none
theorem reps_keys {H : Hp} : ∀ {ks : List Key}, ks.all okKey = true → Reps H (ks.map keyV) (ks.map kV)
  | [], _ => .nil
  | k :: ks, h => by
    rw [List.all_cons, Bool.and_eq_true] at h
    refine .cons ?_ (reps_keys h.2)
    cases k with
    | inl i => exact .lf rfl
    | inr x => exact .lf h.1
theorem zip_fst {α β : Type} : ∀ {as : List α} {bs : List β}, as.length = bs.length → (as.zip bs).map (·.1) = as
  | [], _, _ => rfl
  | a :: as, [], h => by simp at h
  | a :: as, b :: bs, h => by rw [List.zip_cons_cons, List.map_cons, zip_fst (by simpa using h)]
theorem r1_lstK : R1O rListD lstK := fun ds z e G H vs x r1 Q k => by
  unfold lstK at e
  split at e
  · rename_i ks ds
    split at e
    · rename_i hk
      cases e
      obtain ⟨v, rfl, r⟩ := views1 r1
      obtain ⟨a, us, rfl, h1, l0, l1, q⟩ := r.dct x
      have e1 : ((ks.zip us).map fun kv => kV kv.1) = ks.map kV := by
        rw [show ((ks.zip us).map fun kv => kV kv.1) = ((ks.zip us).map (·.1)).map kV by rw [List.map_map]; rfl, zip_fst (by rw [q.len, l0])]
      refine ⟨a, _, rfl, h1, fun p np => ?_⟩
      rw [e1]
      exact k p _ G _ (.tmp x np) np (x.back np) upd_same (by rw [List.length_map, l0]; exact l1) (reps_keys hk)
    · cases e
  · cases e
/-- tuple(..) -/
def tupD : List D → Option D
  | [.seq _ ds] => some (.seq false ds)
  | _ => none
theorem r1_tup {K : PySem.W.Frag} : R1D (fun xs H Q => ∃ p ys, xs = [.ref p] ∧ ((SqL K H p ys ∧ ∀ l, H l = none → Q (.ref l) (upd H l (.tup ys))) ∨ (SqT K H p ys ∧ Q (.ref p) H))) tupD := fun ds z e G H vs x r1 Q k => by
  unfold tupD at e
  split at e
  · rename_i b ds
    cases e
    obtain ⟨v, rfl, r⟩ := views1 r1
    cases b with
    | true =>
      obtain ⟨a, us, rfl, h1, l1, q⟩ := r.seq x
      exact ⟨a, us, rfl, .inl ⟨SqL.of h1, fun p np => k _ _ _ (.new x np) (.sq (b := false) upd_same l1 (q.mono (Ex.new (x.back np))))⟩⟩
    | false =>
      have r2 := r.tup
      obtain ⟨a, us, rfl, h1, l1, q⟩ := r2.un_sq
      exact ⟨a, us, rfl, .inr ⟨SqT.of (x _ _ h1), k _ G H (.refl x) r2⟩⟩
  · cases e
/-- any, all -/
def boolsOf : List D → Option (List Bool)
  | [] => some []
  | .leaf (.bl b) :: r => (boolsOf r).map (b :: ·)
  | _ :: _ => none
theorem bools_un : ∀ {ds : List D} {bs : List Bool}, boolsOf ds = some bs → ds = (bs.map V.bl).map D.leaf
  | [], bs, h => by cases h; rfl
  | d :: r, bs, h => by
    unfold boolsOf at h
    split at h
    · rename_i hh; cases hh
    · rename_i b r' hh
      obtain ⟨ws, h1, rfl⟩ := Option.map_eq_some_iff.mp h
      injection hh with e1 e2
      subst e1 e2
      rw [bools_un h1]; rfl
    · cases h
theorem bools_map : ∀ (bs : List Bool), boolsOf (bs.map bD) = some bs
  | [] => rfl
  | b :: r => by rw [List.map_cons]; show boolsOf (.leaf (.bl b) :: _) = _; rw [boolsOf, bools_map r]; rfl
def anyD : List D → Option D
  | [.seq true ds] => (boolsOf ds).map fun bs => bD (bs.any id)
  | _ => none
def allD : List D → Option D
  | [.seq true ds] => (boolsOf ds).map fun bs => bD (bs.all id)
  | _ => none
theorem r1_any {K : PySem.W.Frag} : R1D (rAny K) anyD := fun ds z e G H vs x r1 Q k => by
  unfold anyD at e
  split at e
  · rename_i ds
    obtain ⟨bs, h1, rfl⟩ := Option.map_eq_some_iff.mp e
    obtain rfl := bools_un h1
    obtain ⟨v, rfl, r⟩ := views1 r1
    obtain ⟨a, us, rfl, h1, l1, q⟩ := r.seq x
    obtain ⟨rfl, _⟩ := reps_leafy q
    exact ⟨a, bs, rfl, SqL.of h1, k _ G H (.refl x) (.lf rfl)⟩
  · cases e
theorem r1_all {K : PySem.W.Frag} : R1D (rAll K) allD := fun ds z e G H vs x r1 Q k => by
  unfold allD at e
  split at e
  · rename_i ds
    obtain ⟨bs, h1, rfl⟩ := Option.map_eq_some_iff.mp e
    obtain rfl := bools_un h1
    obtain ⟨v, rfl, r⟩ := views1 r1
    obtain ⟨a, us, rfl, h1, l1, q⟩ := r.seq x
    obtain ⟨rfl, _⟩ := reps_leafy q
    exact ⟨a, bs, rfl, SqL.of h1, k _ G H (.refl x) (.lf rfl)⟩
  · cases e
/-! ### isinstance -/
/-- what isinstance(.., u) tells -/
def IsT (K : PySem.W.Frag) (u : Value) (p : D → Option Bool) : Prop := ∀ d b, p d = some b → ∀ (H : Hp) (v : V), Rep H d v → ∃ t, TyX K H v t ∧ PySem.W.kitOne K t u = some b
def tyName : D → Option String
  | .leaf .non => some "NoneType"
  | .leaf (.bl _) => some "bool"
  | .leaf (.int _) => some "int"
  | .leaf (.str _) => some "str"
  | .seq true _ => some "list"
  | .seq false _ => some "tuple"
  | .dct _ _ => some "dict"
  | _ => none
theorem ty_of {K : PySem.W.Frag} {d : D} {s : String} (h : tyName d = some s) {H : Hp} {v : V} (r : Rep H d v) : TyX K H v (.type s) := by
  unfold tyName at h
  split at h <;> cases h
  · obtain ⟨rfl, _⟩ := r.un_lf; exact .base .non
  · obtain ⟨rfl, _⟩ := r.un_lf; exact .base (.bl _)
  · obtain ⟨rfl, _⟩ := r.un_lf; exact .base (.int _)
  · obtain ⟨rfl, _⟩ := r.un_lf; exact .base (.str _)
  · obtain ⟨a, us, rfl, h1, _⟩ := r.un_sq; exact .base (.lst h1)
  · obtain ⟨a, us, rfl, h1, _⟩ := r.un_sq; exact .base (.tup h1)
  · obtain ⟨a, us, rfl, h1, _⟩ := r.un_dct; exact .base (.dK h1)
theorem isT_of {K : PySem.W.Frag} {T : String} {p : D → Option Bool} (h : ∀ d b, p d = some b → ∃ s, tyName d = some s ∧ kitB s T = some b) : IsT K (.type T) p := fun d b e H v r => by
  obtain ⟨s, h1, h2⟩ := h d b e
  exact ⟨_, ty_of h1 r, kit_ty h2⟩
def isStr : D → Option Bool
  | .leaf (.str _) => some true
  | .obj _ _ _ => none
  | .frz _ _ => none
  | .leaf (.byt _) => none
  | .leaf (.flt _) => none
  | .leaf (.ref _) => none
  | .leaf (.ty _) => none
  | _ => some false
def isInt : D → Option Bool
  | .leaf (.int _) => some true
  | .leaf (.bl _) => some true
  | .obj _ _ _ => none
  | .frz _ _ => none
  | .leaf (.byt _) => none
  | .leaf (.flt _) => none
  | .leaf (.ref _) => none
  | .leaf (.ty _) => none
  | _ => some false
def isBool : D → Option Bool
  | .leaf (.bl _) => some true
  | .obj _ _ _ => none
  | .frz _ _ => none
  | .leaf (.byt _) => none
  | .leaf (.flt _) => none
  | .leaf (.ref _) => none
  | .leaf (.ty _) => none
  | _ => some false
def isLst : D → Option Bool
  | .seq b _ => some b
  | .obj _ _ _ => none
  | .frz _ _ => none
  | .leaf (.byt _) => none
  | .leaf (.flt _) => none
  | .leaf (.ref _) => none
  | .leaf (.ty _) => none
  | _ => some false
def isTup : D → Option Bool
  | .seq b _ => some (!b)
  | .obj _ _ _ => none
  | .frz _ _ => none
  | .leaf (.byt _) => none
  | .leaf (.flt _) => none
  | .leaf (.ref _) => none
  | .leaf (.ty _) => none
  | _ => some false
def isDct : D → Option Bool
  | .dct _ _ => some true
  | .obj _ _ _ => none
  | .frz _ _ => none
  | .leaf (.byt _) => none
  | .leaf (.flt _) => none
  | .leaf (.ref _) => none
  | .leaf (.ty _) => none
  | _ => some false
theorem isT_str {K : PySem.W.Frag} : IsT K (.type "str") isStr := by
  refine isT_of fun d b e => ?_
  cases d with
  | leaf v => cases v <;> first | (cases e; done) | (cases e; exact ⟨_, rfl, by decide +kernel⟩)
  | seq b' ds => cases b' <;> (cases e; exact ⟨_, rfl, by decide +kernel⟩)
  | dct ks ds => cases e; exact ⟨_, rfl, by decide +kernel⟩
  | obj C ns ds => cases e
  | frz ks ds => cases e
theorem isT_int {K : PySem.W.Frag} : IsT K (.type "int") isInt := by
  refine isT_of fun d b e => ?_
  cases d with
  | leaf v => cases v <;> first | (cases e; done) | (cases e; exact ⟨_, rfl, by decide +kernel⟩)
  | seq b' ds => cases b' <;> (cases e; exact ⟨_, rfl, by decide +kernel⟩)
  | dct ks ds => cases e; exact ⟨_, rfl, by decide +kernel⟩
  | obj C ns ds => cases e
  | frz ks ds => cases e
theorem isT_bool {K : PySem.W.Frag} : IsT K (.type "bool") isBool := by
  refine isT_of fun d b e => ?_
  cases d with
  | leaf v => cases v <;> first | (cases e; done) | (cases e; exact ⟨_, rfl, by decide +kernel⟩)
  | seq b' ds => cases b' <;> (cases e; exact ⟨_, rfl, by decide +kernel⟩)
  | dct ks ds => cases e; exact ⟨_, rfl, by decide +kernel⟩
  | obj C ns ds => cases e
  | frz ks ds => cases e
theorem isT_lst {K : PySem.W.Frag} : IsT K (.type "list") isLst := by
  refine isT_of fun d b e => ?_
  cases d with
  | leaf v => cases v <;> first | (cases e; done) | (cases e; exact ⟨_, rfl, by decide +kernel⟩)
  | seq b' ds => cases b' <;> (cases e; exact ⟨_, rfl, by decide +kernel⟩)
  | dct ks ds => cases e; exact ⟨_, rfl, by decide +kernel⟩
  | obj C ns ds => cases e
  | frz ks ds => cases e
theorem isT_tup {K : PySem.W.Frag} : IsT K (.type "tuple") isTup := by
  refine isT_of fun d b e => ?_
  cases d with
  | leaf v => cases v <;> first | (cases e; done) | (cases e; exact ⟨_, rfl, by decide +kernel⟩)
  | seq b' ds => cases b' <;> (cases e; exact ⟨_, rfl, by decide +kernel⟩)
  | dct ks ds => cases e; exact ⟨_, rfl, by decide +kernel⟩
  | obj C ns ds => cases e
  | frz ks ds => cases e
theorem isT_dct {K : PySem.W.Frag} : IsT K (.type "dict") isDct := by
  refine isT_of fun d b e => ?_
  cases d with
  | leaf v => cases v <;> first | (cases e; done) | (cases e; exact ⟨_, rfl, by decide +kernel⟩)
  | seq b' ds => cases b' <;> (cases e; exact ⟨_, rfl, by decide +kernel⟩)
  | dct ks ds => cases e; exact ⟨_, rfl, by decide +kernel⟩
  | obj C ns ds => cases e
  | frz ks ds => cases e
theorem pu_isi {x : Str} {p pos : Pos} {T : String} {eT : Expr} {q : D → Option Bool} (hT : IsT X.K (.type T) q) (hg : Gl X x) (hm : X.mg x = none) (hv : bootBuiltins x = some (.builtin "isinstance")) (ha : ViD X e t φ) (hT2 : PE X eT (tC (.ty T))) (hn : x ≠ "__name__" := by decide) (hdb : (x == ("__debug__" : Str)) = false := by decide)
    (he1 : starEach [eT] X.env = (false, eval eT X.env) :: starEach [] X.env := by rfl) (he : starEach [e, eT] X.env = (false, eval e X.env) :: starEach [eT] X.env := by rfl) (hpl : (backTo pos (starEach [eT] X.env)).any (·.1) = false := by rfl) :
    PuD X (.Call (.Name x p) [e, eT] [] pos) (tCB (rIsi X.K) (tCons t (tCons (tC (.ty T)) tNil))) (fun ρ => ((φ ρ).bind q).map bD) := ⟨pe_callB call_isi hg hm hv (pa_cons ha.pe (pa_cons hT2 pa_nil he1) he) hn hdb he hpl, fun ρ d ee G H σ xx Q k => by
  obtain ⟨b, h1, rfl⟩ := Option.map_eq_some_iff.mp ee
  obtain ⟨d1, h2, h3⟩ := Option.bind_eq_some_iff.mp h1
  refine ha.ev ρ d1 h2 G H σ xx _ fun v G1 H1 f1 r1 => ?_
  obtain ⟨tt, h4, h5⟩ := hT d1 b h3 H1 v (r1.rep f1.gh)
  exact ⟨v, .ty T, tt, .type T, b, rfl, .ty T, h4, h5, k _ G1 H1 f1 (.lf rfl)⟩⟩
/-- isinstance(x, (T, U, ..)) -/
def IsTs (K : PySem.W.Frag) (us : List Value) (p : D → Option Bool) : Prop := ∀ d b, p d = some b → ∀ (H : Hp) (v : V), Rep H d v → ∃ t, TyX K H v t ∧ PySem.W.kitAny K t us = some b
theorem isTs_of {K : PySem.W.Frag} {Ts : List String} {p : D → Option Bool} (h : ∀ d b, p d = some b → ∃ s, tyName d = some s ∧ PySem.W.kitAny K (.type s) (Ts.map Value.type) = some b) : IsTs K (Ts.map Value.type) p := fun d b e H v r => by
  obtain ⟨s, h1, h2⟩ := h d b e
  exact ⟨_, ty_of h1 r, h2⟩
theorem kitAny2 {K : PySem.W.Frag} {a b c : String} {r q : Bool} (h : kitB a b = some r) (h2 : kitB a c = some q) : PySem.W.kitAny K (.type a) [.type b, .type c] = some (r || q) := by
  unfold PySem.W.kitAny
  rw [kit_ty h]
  cases r with
  | true => rfl
  | false =>
    show PySem.W.kitAny K (.type a) [.type c] = _
    unfold PySem.W.kitAny
    rw [kit_ty h2]
    cases q <;> rfl
theorem kitAny3 {K : PySem.W.Frag} {a b c d : String} {r q p : Bool} (h : kitB a b = some r) (h2 : kitB a c = some q) (h3 : kitB a d = some p) : PySem.W.kitAny K (.type a) [.type b, .type c, .type d] = some (r || (q || p)) := by
  unfold PySem.W.kitAny
  rw [kit_ty h]
  cases r with
  | true => rfl
  | false =>
    show PySem.W.kitAny K (.type a) [.type c, .type d] = _
    rw [kitAny2 h2 h3]
    rfl
def isSeq : D → Option Bool
  | .seq _ _ => some true
  | .obj _ _ _ => none
  | .frz _ _ => none
  | .leaf (.byt _) => none
  | .leaf (.flt _) => none
  | .leaf (.ref _) => none
  | .leaf (.ty _) => none
  | _ => some false
def isIntSeq : D → Option Bool
  | .seq _ _ => some true
  | .leaf (.int _) => some true
  | .leaf (.bl _) => some true
  | .obj _ _ _ => none
  | .frz _ _ => none
  | .leaf (.byt _) => none
  | .leaf (.flt _) => none
  | .leaf (.ref _) => none
  | .leaf (.ty _) => none
  | _ => some false
theorem isTs_seq {K : PySem.W.Frag} : IsTs K [.type "list", .type "tuple"] isSeq := by
  refine isTs_of (Ts := ["list", "tuple"]) fun d b e => ?_
  cases d with
  | leaf v => cases v <;> first | (cases e; done) | (cases e; exact ⟨_, rfl, kitAny2 (r := false) (q := false) (by decide +kernel) (by decide +kernel)⟩)
  | seq b' ds =>
    cases b' with
    | true => cases e; exact ⟨_, rfl, kitAny2 (r := true) (q := false) (by decide +kernel) (by decide +kernel)⟩
    | false => cases e; exact ⟨_, rfl, kitAny2 (r := false) (q := true) (by decide +kernel) (by decide +kernel)⟩
  | dct ks ds => cases e; exact ⟨_, rfl, kitAny2 (r := false) (q := false) (by decide +kernel) (by decide +kernel)⟩
  | obj C ns ds => cases e
  | frz ks ds => cases e
theorem isTs_intSeq {K : PySem.W.Frag} : IsTs K [.type "int", .type "list", .type "tuple"] isIntSeq := by
  refine isTs_of (Ts := ["int", "list", "tuple"]) fun d b e => ?_
  cases d with
  | leaf v => cases v <;> first | (cases e; done) | (cases e; exact ⟨_, rfl, kitAny3 (r := true) (q := false) (p := false) (by decide +kernel) (by decide +kernel) (by decide +kernel)⟩) | (cases e; exact ⟨_, rfl, kitAny3 (r := false) (q := false) (p := false) (by decide +kernel) (by decide +kernel) (by decide +kernel)⟩)
  | seq b' ds =>
    cases b' with
    | true => cases e; exact ⟨_, rfl, kitAny3 (r := false) (q := true) (p := false) (by decide +kernel) (by decide +kernel) (by decide +kernel)⟩
    | false => cases e; exact ⟨_, rfl, kitAny3 (r := false) (q := false) (p := true) (by decide +kernel) (by decide +kernel) (by decide +kernel)⟩
  | dct ks ds => cases e; exact ⟨_, rfl, kitAny3 (r := false) (q := false) (p := false) (by decide +kernel) (by decide +kernel) (by decide +kernel)⟩
  | obj C ns ds => cases e
  | frz ks ds => cases e
/-- the written types -/
inductive TyArgs (X : Cx) : List Expr → TA → List V → List Value → Prop where
  | nil : TyArgs X [] tNil [] []
  | cons {e : Expr} {es : List Expr} {tr : TA} {T : String} {vs : List V} {us : List Value} (h : PE X e (tC (.ty T))) (r : TyArgs X es tr vs us) (hs : starEach (e :: es) X.env = (false, eval e X.env) :: starEach es X.env) : TyArgs X (e :: es) (tCons (tC (.ty T)) tr) (.ty T :: vs) (.type T :: us)
theorem TyArgs.pa {es : List Expr} {tr : TA} {vs : List V} {us : List Value} (h : TyArgs X es tr vs us) : PA X es tr := by
  induction h with
  | nil => exact pa_nil
  | cons h r hs ih => exact pa_cons h ih hs
theorem TyArgs.ev {es : List Expr} {tr : TA} {vs : List V} {us : List Value} (h : TyArgs X es tr vs us) : ∀ (σ : St) (H : Hp) (Q : List V → Hp → Prop), Q vs H → tr σ H Q := by
  induction h with
  | nil => intro σ H Q q; exact q
  | cons h r hs ih => intro σ H Q q; exact ih σ H _ q
theorem TyArgs.cls {es : List Expr} {tr : TA} {vs : List V} {us : List Value} (h : TyArgs X es tr vs us) : Paired ClsV vs us := by
  induction h with
  | nil => exact .nil
  | cons h r hs ih => exact .cons (.ty _) ih
theorem pu_isiT {x : Str} {p pos pos2 : Pos} {x1 : _} {us : List Value} {vs : List V} {es' : List Expr} {tr : TA} {q : D → Option Bool} (hT : IsTs X.K us q) (hg : Gl X x) (hm : X.mg x = none) (hv : bootBuiltins x = some (.builtin "isinstance")) (ha : ViD X e t φ) (hT2 : TyArgs X es' tr vs us) (hl : vs.length ≤ 10) (hn : x ≠ "__name__" := by decide) (hdb : (x == ("__debug__" : Str)) = false := by decide)
    (he1 : starEach [.Tuple es' x1 pos2] X.env = (false, eval (.Tuple es' x1 pos2) X.env) :: starEach [] X.env := by rfl) (he : starEach [e, .Tuple es' x1 pos2] X.env = (false, eval e X.env) :: starEach [.Tuple es' x1 pos2] X.env := by rfl) (hpl : (backTo pos (starEach [.Tuple es' x1 pos2] X.env)).any (·.1) = false := by rfl) :
    PuD X (.Call (.Name x p) [e, .Tuple es' x1 pos2] [] pos) (tCB (rIsiT X.K) (tCons t (tCons (tTup tr) tNil))) (fun ρ => ((φ ρ).bind q).map bD) := ⟨pe_callB call_isiT hg hm hv (pa_cons ha.pe (pa_cons (pe_tup hT2.pa) pa_nil he1) he) hn hdb he hpl, fun ρ d ee G H σ xx Q k => by
  obtain ⟨b, h1, rfl⟩ := Option.map_eq_some_iff.mp ee
  obtain ⟨d1, h2, h3⟩ := Option.bind_eq_some_iff.mp h1
  refine ha.ev ρ d1 h2 G H σ xx _ fun v G1 H1 f1 r1 => ?_
  refine hT2.ev σ H1 _ ⟨by rw [sizeLine_eq]; omega, fun p np => ?_⟩
  obtain ⟨tt, h4, h5⟩ := hT d1 b h3 _ v ((r1.rep f1.gh).mono (Ex.new (o := .tup vs) np))
  exact ⟨v, p, vs, tt, us, b, rfl, upd_same, hT2.cls, h4, h5, k _ G1 _ (f1.trans (.tmp f1.gh np)) (.lf rfl)⟩⟩
/-! ### truth, and, or, not, if -/
def truD : D → Option Bool
  | .leaf .non => some false
  | .leaf (.bl b) => some b
  | .leaf (.int i) => some (i != 0)
  | .leaf (.str x) => some ((x.length : Int) != 0)
  | .seq _ ds => some (!ds.isEmpty)
  | .dct _ ds => some (!ds.isEmpty)
  | _ => none
theorem isEmpty_len {α β : Type} : ∀ {as : List α} {bs : List β}, as.length = bs.length → as.isEmpty = bs.isEmpty
  | [], [], _ => rfl
  | _ :: _, _ :: _, _ => rfl
  | [], _ :: _, h => by simp at h
  | _ :: _, [], h => by simp at h
theorem tru_of {K : PySem.W.Frag} {d : D} {k : Bool} (h : truD d = some k) {G H : Hp} {v : V} (x : Ex G H) (r : View G H d v) : TruV K v H k := by
  unfold truD at h
  split at h
  · cases h; obtain ⟨rfl, _⟩ := r.lf; rfl
  · cases h; obtain ⟨rfl, _⟩ := r.lf; rfl
  · cases h; obtain ⟨rfl, _⟩ := r.lf; rfl
  · cases h
    obtain ⟨rfl, lf⟩ := r.lf
    exact ⟨by rw [sizeLine_eq]; have := of_decide_eq_true lf; omega, rfl⟩
  · rename_i b ds
    cases h
    obtain ⟨a, us, rfl, h1, l1, q⟩ := r.seq x
    rw [← isEmpty_len q.len]
    cases b with
    | true => exact .inl ⟨us, SqL.of h1, rfl⟩
    | false => exact .inr (.inl ⟨us, SqT.of h1, rfl⟩)
  · rename_i ks ds
    cases h
    obtain ⟨a, us, rfl, h1, l0, l1, q⟩ := r.dct x
    refine .inr (.inr ⟨_, h1, ?_⟩)
    rw [isEmpty_len (as := ds) (bs := ks.zip us) (by rw [List.length_zip, q.len, l0, Nat.min_self])]
  · cases h
/-- the truth of a value -/
def orF (φ ψ : Env → Option D) : Env → Option D := fun ρ => (φ ρ).bind fun x => (truD x).bind fun k => if k = true then some x else ψ ρ
def andF (φ ψ : Env → Option D) : Env → Option D := fun ρ => (φ ρ).bind fun x => (truD x).bind fun k => if k = true then ψ ρ else some x
section
variable {rest : List Expr} {pos : Pos}
theorem pu_orT (ha : PuD X a ta φa) (hb : PuD X (.BoolOp .Or (b :: rest) pos) tb φb) : PuD X (.BoolOp .Or (a :: b :: rest) pos) (tOrT X.K ta tb) (orF φa φb) := ⟨pe_orT ha.pe hb.pe, fun ρ d e G H σ x Q k => by
  obtain ⟨d1, e1, e2⟩ := Option.bind_eq_some_iff.mp e
  obtain ⟨kk, e3, e4⟩ := Option.bind_eq_some_iff.mp e2
  refine ha.ev ρ d1 e1 G H σ x _ fun v G1 H1 f1 r1 => ⟨kk, tru_of e3 f1.gh (.inl r1), ?_⟩
  cases kk with
  | true => cases e4; exact k v G1 H1 f1 r1
  | false => exact hb.ev ρ d e4 G1 H1 σ (x.mono f1) Q fun v2 G2 H2 f2 r2 => k v2 G2 H2 (f1.trans f2) r2⟩
theorem pu_andT (ha : PuD X a ta φa) (hb : PuD X (.BoolOp .And (b :: rest) pos) tb φb) : PuD X (.BoolOp .And (a :: b :: rest) pos) (tAndT X.K ta tb) (andF φa φb) := ⟨pe_andT ha.pe hb.pe, fun ρ d e G H σ x Q k => by
  obtain ⟨d1, e1, e2⟩ := Option.bind_eq_some_iff.mp e
  obtain ⟨kk, e3, e4⟩ := Option.bind_eq_some_iff.mp e2
  refine ha.ev ρ d1 e1 G H σ x _ fun v G1 H1 f1 r1 => ⟨kk, tru_of e3 f1.gh (.inl r1), ?_⟩
  cases kk with
  | false => cases e4; exact k v G1 H1 f1 r1
  | true => exact hb.ev ρ d e4 G1 H1 σ (x.mono f1) Q fun v2 G2 H2 f2 r2 => k v2 G2 H2 (f1.trans f2) r2⟩
theorem pu_one {op : BoolOp} (ha : PuD X a ta φa) : PuD X (.BoolOp op [a] pos) ta φa := ⟨pe_one ha.pe, ha.ev⟩
def notF (φ : Env → Option D) : Env → Option D := fun ρ => (φ ρ).bind fun x => (truD x).map fun k => bD (!k)
theorem pu_notT (ha : ViD X a ta φa) : PuD X (.UnaryOp .Not a pos) (tNotT X.K ta) (notF φa) := ⟨pe_notT ha.pe, fun ρ d e G H σ x Q k => by
  obtain ⟨d1, e1, e2⟩ := Option.bind_eq_some_iff.mp e
  obtain ⟨kk, e3, rfl⟩ := Option.map_eq_some_iff.mp e2
  exact ha.ev ρ d1 e1 G H σ x _ fun v G1 H1 f1 r1 => ⟨kk, tru_of e3 f1.gh r1, k _ G1 H1 f1 (.lf rfl)⟩⟩
/-! tests -/
def truF (φ : Env → Option D) : Env → Option Bool := fun ρ => (φ ρ).bind truD
def asB : D → Option Bool
  | .leaf (.bl b) => some b
  | _ => none
def asBF (φ : Env → Option D) : Env → Option Bool := fun ρ => (φ ρ).bind asB
theorem te_tru (ha : ViD X a ta φa) (he : ∀ whole, isTrue a X.env whole = (do let v ← whole; standAt a.pos; holding [v] (truthy v))) : TeD X a (fun σ H Q => ta σ H fun x H' => ∃ k, TruV X.K x H' k ∧ Q k H') (truF φa) := ⟨pt_truth ha.pe he, fun ρ b e G H σ x Q k => by
  obtain ⟨d1, e1, e2⟩ := Option.bind_eq_some_iff.mp e
  exact ha.ev ρ d1 e1 G H σ x _ fun v G1 H1 f1 r1 => ⟨b, tru_of e2 f1.gh r1, k G1 H1 f1⟩⟩
theorem te_test {t : TE} (h : PuS t φ) : TeS (tTest t) (asBF φ) := fun ρ b e G H σ x Q k => by
  obtain ⟨d1, e1, e2⟩ := Option.bind_eq_some_iff.mp e
  refine h ρ d1 e1 G H σ x _ fun v G1 H1 f1 r1 => ?_
  unfold asB at e2
  split at e2
  · cases e2
    obtain ⟨rfl, _⟩ := r1.un_lf
    exact ⟨_, rfl, k G1 H1 f1⟩
  · cases e2
theorem te_cmp {op : CmpOp} {r : R2} {o : D → D → Option D} (ho : OpR X (compareOp op) r) (hd : R2D r o) (hm : behindInMarks op b = false) (ha : ViD X a ta φa) (hb : ViD X b tb φb) : TeD X (.Compare a [op] [b] pos) (tTest (tOp r ta tb)) (asBF (bin2 o φa φb)) :=
  ⟨pt_cmpR ho ha.pe hb.pe hm, te_test (op_ev hd ha.ev hb.ev)⟩
theorem TwD.te {tt : TT} {χ : Env → Option Bool} (h : TwD X a tt χ) : TeD X a tt χ := ⟨h.pw.pt, h.ev⟩
def andB (χ ξ : Env → Option Bool) : Env → Option Bool := fun ρ => (χ ρ).bind fun k => if k = true then ξ ρ else some false
def orB (χ ξ : Env → Option Bool) : Env → Option Bool := fun ρ => (χ ρ).bind fun k => if k = true then some true else ξ ρ
def notB (χ : Env → Option Bool) : Env → Option Bool := fun ρ => (χ ρ).map (!·)
variable {tt tu : TT} {χ ξ : Env → Option Bool}
theorem tw_and1 (h : TeD X a tt χ) : TwD X (.BoolOp .And [a] pos) tt χ := ⟨pw_and1 h.pt, h.ev⟩
theorem tw_or1 (h : TeD X a tt χ) : TwD X (.BoolOp .Or [a] pos) tt χ := ⟨pw_or1 h.pt, h.ev⟩
theorem tw_and (h : TeD X a tt χ) (h2 : TwD X (.BoolOp .And (b :: rest) pos) tu ξ) : TwD X (.BoolOp .And (a :: b :: rest) pos) (tAnd tt tu) (andB χ ξ) := ⟨pw_and h.pt h2.pw, fun ρ b e G H σ x Q k => by
  obtain ⟨k1, e1, e2⟩ := Option.bind_eq_some_iff.mp e
  refine h.ev ρ k1 e1 G H σ x _ fun G1 H1 f1 => ?_
  cases k1 with
  | true => exact h2.ev ρ b e2 G1 H1 σ (x.mono f1) Q fun G2 H2 f2 => k G2 H2 (f1.trans f2)
  | false => cases e2; exact k G1 H1 f1⟩
theorem tw_or (h : TeD X a tt χ) (h2 : TwD X (.BoolOp .Or (b :: rest) pos) tu ξ) : TwD X (.BoolOp .Or (a :: b :: rest) pos) (tOr tt tu) (orB χ ξ) := ⟨pw_or h.pt h2.pw, fun ρ b e G H σ x Q k => by
  obtain ⟨k1, e1, e2⟩ := Option.bind_eq_some_iff.mp e
  refine h.ev ρ k1 e1 G H σ x _ fun G1 H1 f1 => ?_
  cases k1 with
  | false => exact h2.ev ρ b e2 G1 H1 σ (x.mono f1) Q fun G2 H2 f2 => k G2 H2 (f1.trans f2)
  | true => cases e2; exact k G1 H1 f1⟩
theorem te_not (h : TeD X a tt χ) : TeD X (.UnaryOp .Not a pos) (tNot tt) (notB χ) := ⟨pt_not h.pt, fun ρ b e G H σ x Q k => by
  obtain ⟨k1, e1, rfl⟩ := Option.map_eq_some_iff.mp e
  exact h.ev ρ k1 e1 G H σ x _ fun G1 H1 f1 => k G1 H1 f1⟩
def ifF {β : Type} (χ : Env → Option Bool) (φ ψ : Env → Option β) : Env → Option β := fun ρ => (χ ρ).bind fun k => if k = true then φ ρ else ψ ρ
theorem pu_if (h : TeD X c tt χ) (ha : PuD X a ta φa) (hb : PuD X b tb φb) : PuD X (.IfExp c a b pos) (tIf tt ta tb) (ifF χ φa φb) := ⟨pe_ifExp h.pt ha.pe hb.pe, fun ρ d e G H σ x Q k => by
  obtain ⟨k1, e1, e2⟩ := Option.bind_eq_some_iff.mp e
  refine h.ev ρ k1 e1 G H σ x _ fun G1 H1 f1 => ?_
  cases k1 with
  | true => exact ha.ev ρ d e2 G1 H1 σ (x.mono f1) Q fun v G2 H2 f2 r => k v G2 H2 (f1.trans f2) r
  | false => exact hb.ev ρ d e2 G1 H1 σ (x.mono f1) Q fun v G2 H2 f2 r => k v G2 H2 (f1.trans f2) r⟩
/-! ### displays -/
theorem pu_tup {x1 : _} {tr : TA} (h : ArD X es tr ψ) : PuD X (.Tuple es x1 pos) (tTup tr) (fun ρ => (ψ ρ).bind fun ds => if ds.length ≤ Lim then some (.seq false ds) else none) := ⟨pe_tup h.pa, fun ρ d e G H σ x Q k => by
  obtain ⟨ds, e1, e2⟩ := Option.bind_eq_some_iff.mp e
  split at e2
  · rename_i hl
    cases e2
    refine h.ev ρ ds e1 G H σ x _ fun vs G1 H1 f1 r1 => ⟨by rw [r1.len]; exact lim_line (by omega), fun p np => k _ _ _ (f1.trans (.new f1.gh np)) (.sq (b := false) upd_same hl (r1.mono (Ex.new (f1.gh.back np))))⟩
  · cases e2⟩
theorem ow_lst {tr : TA} (h : ArD X es tr ψ) : OwD X (.List es pos) (tLst tr) (fun ρ => (ψ ρ).bind fun ds => if ds.length ≤ Lim then some ds else none) := ⟨pe_lst h.pa, fun ρ d e G H σ x Q k => by
  obtain ⟨ds, e1, e2⟩ := Option.bind_eq_some_iff.mp e
  split at e2
  · rename_i hl
    cases e2
    refine h.ev ρ _ e1 G H σ x _ fun vs G1 H1 f1 r1 => ⟨by rw [r1.len]; exact lim_line (by omega), fun p np => k p vs G1 _ (f1.trans (.tmp f1.gh np)) (f1.ne np) (f1.gh.back np) upd_same hl r1⟩
  · cases e2⟩
/-! ### slices -/
def PoS (t : TO) (φ : Env → Option (Option Int)) : Prop := ∀ ρ o, φ ρ = some o → ∀ (G H : Hp) (σ : St), EnvOk G H σ ρ → ∀ Q : Option Int → Hp → Prop, (∀ G2 H2, Fr G H G2 H2 → Q o H2) → t σ H Q
structure PoD (X : Cx) (e : Option Expr) (t : TO) (φ : Env → Option (Option Int)) : Prop where
  po : PO X e t
  ev : PoS t φ
theorem so_none : PoD X none tNoPart (fun _ => some none) := ⟨po_none, fun ρ o e G H σ x Q k => by cases e; exact k G H (.refl x.gh)⟩
def asI : D → Option Int
  | .leaf (.int i) => some i
  | _ => none
theorem so_some (h : PuD X e t φ) : PoD X (some e) (tPart t) (fun ρ => ((φ ρ).bind asI).map some) := ⟨po_some h.pe, fun ρ o ee G H σ x Q k => by
  obtain ⟨i, e1, rfl⟩ := Option.map_eq_some_iff.mp ee
  obtain ⟨d, e2, e3⟩ := Option.bind_eq_some_iff.mp e1
  refine h.ev ρ d e2 G H σ x _ fun v G1 H1 f1 r1 => ?_
  unfold asI at e3
  split at e3
  · cases e3
    obtain ⟨rfl, _⟩ := r1.un_lf
    exact ⟨i, rfl, k G1 H1 f1⟩
  · cases e3⟩
def cutD {α : Type} (xs : List α) (lo hi : Option Int) : List α := (xs.drop (HT.sIx xs.length 0 lo)).take (HT.sIx xs.length xs.length hi - HT.sIx xs.length 0 lo)
theorem reps_cut {H : Hp} {ds : List D} {us : List V} (h : Reps H ds us) (lo hi : Option Int) : Reps H (cutD ds lo hi) (cutV us lo hi) := by
  unfold cutD cutV
  rw [h.len]
  exact (h.dp _).tk _
theorem cut_len {α : Type} (xs : List α) (lo hi : Option Int) : (cutD xs lo hi).length ≤ xs.length := by
  unfold cutD
  rw [List.length_take, List.length_drop]
  omega
def slF {β : Type} (op : D → Option Int → Option Int → Option β) (φ : Env → Option D) (l h : Env → Option (Option Int)) : Env → Option β := fun ρ => (φ ρ).bind fun x => (l ρ).bind fun lo => (h ρ).bind fun hi => op x lo hi
def slO : D → Option Int → Option Int → Option (List D)
  | .seq true ds, lo, hi => some (cutD ds lo hi)
  | _, _, _ => none
def slT : D → Option Int → Option Int → Option D
  | .seq false ds, lo, hi => some (.seq false (cutD ds lo hi))
  | _, _, _ => none
section
variable {lo hi : Option Expr} {tl th : TO} {l h : Env → Option (Option Int)} {p2 : Pos}
theorem slF_un {β : Type} {op : D → Option Int → Option Int → Option β} {ρ : Env} {z : β} (e : slF op φ l h ρ = some z) : ∃ x i j, φ ρ = some x ∧ l ρ = some i ∧ h ρ = some j ∧ op x i j = some z := by
  obtain ⟨x, h1, h2⟩ := Option.bind_eq_some_iff.mp e
  obtain ⟨i, h3, h4⟩ := Option.bind_eq_some_iff.mp h2
  obtain ⟨j, h5, h6⟩ := Option.bind_eq_some_iff.mp h4
  exact ⟨x, i, j, h1, h3, h5, h6⟩
theorem ow_sl (ha : ViD X a ta φ) (hl : PoD X lo tl l) (hh : PoD X hi th h) : OwD X (.Subscript a (.Slice lo hi none p2) pos) (tSl (rSlL X.K) ta tl th) (slF slO φ l h) := ⟨pe_slice sl_list ha.pe hl.po hh.po, fun ρ z e G H σ x Q k => by
  obtain ⟨d, i, j, e1, e2, e3, e4⟩ := slF_un e
  refine ha.ev ρ d e1 G H σ x _ fun v G1 H1 f1 r1 => ?_
  refine hl.ev ρ i e2 G1 H1 σ (x.mono f1) _ fun G2 H2 f2 => ?_
  refine hh.ev ρ j e3 G2 H2 σ ((x.mono f1).mono f2) _ fun G3 H3 f3 => ?_
  have f := f1.trans (f2.trans f3)
  have r3 := r1.mono (f2.trans f3)
  unfold slO at e4
  split at e4
  · rename_i ds lo' hi'
    cases e4
    obtain ⟨a1, us, rfl, h1, l1, q1⟩ := r3.seq f3.gh
    exact ⟨a1, us, rfl, SqL.of h1, fun p np => k p _ G3 _ (f.trans (.tmp f3.gh np)) (f.ne np) (f3.gh.back np) upd_same (Nat.le_trans (cut_len _ _ _) l1) (reps_cut q1 _ _)⟩
  · cases e4⟩
theorem pu_slT (ha : ViD X a ta φ) (hl : PoD X lo tl l) (hh : PoD X hi th h) : PuD X (.Subscript a (.Slice lo hi none p2) pos) (tSl (rSlA X.K) ta tl th) (slF slT φ l h) := ⟨pe_slice sl_tupA ha.pe hl.po hh.po, fun ρ z e G H σ x Q k => by
  obtain ⟨d, i, j, e1, e2, e3, e4⟩ := slF_un e
  refine ha.ev ρ d e1 G H σ x _ fun v G1 H1 f1 r1 => ?_
  refine hl.ev ρ i e2 G1 H1 σ (x.mono f1) _ fun G2 H2 f2 => ?_
  refine hh.ev ρ j e3 G2 H2 σ ((x.mono f1).mono f2) _ fun G3 H3 f3 => ?_
  have f := f1.trans (f2.trans f3)
  have r3 := r1.mono (f2.trans f3)
  match d, e4, r3 with
  | .seq false ds, e4, r3 =>
    cases e4
    have r4 := r3.tup
    obtain ⟨a1, us, rfl, h1, l1, q1⟩ := r4.un_sq
    refine ⟨a1, us, rfl, SqT.of (f3.gh _ _ h1), fun w => ?_, fun w p np => k _ _ _ (f.trans (.new f3.gh np)) (.sq (b := false) upd_same (Nat.le_trans (cut_len _ _ _) l1) ((reps_cut q1 _ _).mono (Ex.new (f3.gh.back np))))⟩
    have e5 : cutD ds i j = ds := by
      unfold cutD
      rw [← q1.len, w.1, w.2, List.drop_zero, Nat.sub_zero, q1.len, List.take_length]
    rw [e5] at k
    exact k _ _ _ f r4
  | .seq true ds, e4, _ => cases e4
  | .leaf _, e4, _ => cases e4
  | .dct _ _, e4, _ => cases e4
  | .obj _ _ _, e4, _ => cases e4
  | .frz _ _, e4, _ => cases e4⟩
end
end
end
end L2.Tr

namespace Vy
open PySem
open Sem (wp)
open AutoSeq1 (wpAny_loadPart')
end Vy
namespace L2.Vy
open PySem PySem.Spec PyProof.Rows
/-! Trees: statements, loops, comprehensions, defs. -/
namespace L2.Tr
open PySem PySem.Spec PyProof.Rows
/-! ### slots written -/
def Own (σ : St) (ρ : Env) (a : Addr) : Prop := ∃ (i : Nat) (ds : D), ρ[i]? = some (Sl.ow ds) ∧ σ[i]? = some (some (V.ref a))
section
variable {G H G2 H2 G3 H3 : Hp} {σ σ2 σ3 : St} {ρ ρ2 ρ3 : Env}
theorem EnvOk.setP (x : EnvOk G H σ ρ) {d : D} {v : V} (r : Rep G d v) (i : Nat) : EnvOk G H (σ.set i (some v)) (ρ.set i (Sl.pu d)) := by
  have hl := x.len
  refine ⟨x.gh, by rw [List.length_set, List.length_set]; exact hl, fun j e h => ?_, fun j es h => ?_, fun j k es fs p h1 h2 h3 h4 => ?_⟩
  · by_cases hj : i = j
    · subst hj
      have hi : i < ρ.length := by
        have := (List.getElem?_eq_some_iff.mp h).1
        rwa [List.length_set] at this
      rw [List.getElem?_set_self hi] at h
      cases h
      exact ⟨v, List.getElem?_set_self (by omega), r⟩
    · rw [List.getElem?_set_ne hj] at h ⊢
      exact x.pu j e h
  · by_cases hj : i = j
    · subst hj
      have hi : i < ρ.length := by
        have := (List.getElem?_eq_some_iff.mp h).1
        rwa [List.length_set] at this
      rw [List.getElem?_set_self hi] at h
      cases h
    · rw [List.getElem?_set_ne hj] at h ⊢
      exact x.ow j es h
  · have ne : ∀ {j : Nat} {es : D}, (ρ.set i (Sl.pu d))[j]? = some (Sl.ow es) → i ≠ j := fun {j es} h e => by
      subst e
      have hi : i < ρ.length := by
        have := (List.getElem?_eq_some_iff.mp h).1
        rwa [List.length_set] at this
      rw [List.getElem?_set_self hi] at h
      cases h
    rw [List.getElem?_set_ne (ne h1)] at h3
    rw [List.getElem?_set_ne (ne h2)] at h4
    have n1 := ne h1
    have n2 := ne h2
    rw [List.getElem?_set_ne n1] at h1
    rw [List.getElem?_set_ne n2] at h2
    exact x.inj j k es fs p h1 h2 h3 h4
theorem own_setP {d : D} {v : V} {i : Nat} {a : Addr} (hl : σ.length = ρ.length) (h : Own (σ.set i (some v)) (ρ.set i (Sl.pu d)) a) : Own σ ρ a := by
  obtain ⟨j, es, h1, h2⟩ := h
  by_cases hj : i = j
  · subst hj
    have hi : i < ρ.length := by
      have := (List.getElem?_eq_some_iff.mp h1).1
      rwa [List.length_set] at this
    rw [List.getElem?_set_self hi] at h1
    cases h1
  · rw [List.getElem?_set_ne hj] at h1 h2
    exact ⟨j, es, h1, h2⟩
theorem EnvOk.setO (x : EnvOk G H σ ρ) {ds : D} {o : HO} {p : Addr} (i : Nat) (n : G p = none) (hp : H p = some o) (r : Top G ds o) (new : ∀ j es, i ≠ j → ρ[j]? = some (Sl.ow es) → σ[j]? ≠ some (some (V.ref p))) :
    EnvOk G H (σ.set i (some (.ref p))) (ρ.set i (Sl.ow ds)) := by
  have hlen := x.len
  have lt : ∀ {j : Nat} {s : Sl}, (ρ.set i (Sl.ow ds))[j]? = some s → j < ρ.length := fun {j s} h => by
    have := (List.getElem?_eq_some_iff.mp h).1
    rwa [List.length_set] at this
  refine ⟨x.gh, by rw [List.length_set, List.length_set]; exact hlen, fun j e h => ?_, fun j es h => ?_, fun j k es fs q h1 h2 h3 h4 => ?_⟩
  · have hj := lt h
    by_cases e' : i = j
    · subst e'
      rw [List.getElem?_set_self hj] at h
      cases h
    · rw [List.getElem?_set_ne e'] at h ⊢
      exact x.pu j e h
  · have hj := lt h
    by_cases e' : i = j
    · subst e'
      rw [List.getElem?_set_self hj] at h
      cases h
      exact ⟨p, o, List.getElem?_set_self (by omega), n, hp, r⟩
    · rw [List.getElem?_set_ne e'] at h ⊢
      exact x.ow j es h
  · have hj := lt h1
    have hk := lt h2
    by_cases e1 : i = j
    · by_cases e2 : i = k
      · omega
      · subst e1
        rw [List.getElem?_set_self (by omega)] at h3
        rw [List.getElem?_set_ne e2] at h4 h2
        cases h3
        exact absurd h4 (new k fs e2 h2)
    · by_cases e2 : i = k
      · subst e2
        rw [List.getElem?_set_self (by omega)] at h4
        rw [List.getElem?_set_ne e1] at h3 h1
        cases h4
        exact absurd h3 (new j es e1 h1)
      · rw [List.getElem?_set_ne e1] at h3 h1
        rw [List.getElem?_set_ne e2] at h4 h2
        exact x.inj j k es fs q h1 h2 h3 h4
theorem own_setO {ds : D} {p : Addr} {i : Nat} {a : Addr} (hl : σ.length = ρ.length) (h : Own (σ.set i (some (.ref p))) (ρ.set i (Sl.ow ds)) a) : Own σ ρ a ∨ a = p := by
  obtain ⟨j, es, h1, h2⟩ := h
  by_cases hj : i = j
  · subst hj
    have hi : i < ρ.length := by
      have := (List.getElem?_eq_some_iff.mp h1).1
      rwa [List.length_set] at this
    rw [List.getElem?_set_self (by omega)] at h2
    cases h2
    exact .inr rfl
  · rw [List.getElem?_set_ne hj] at h1 h2
    exact .inl ⟨j, es, h1, h2⟩
/-- own instances stay where they are -/
def ObK (σ : St) (ρ : Env) (σ2 : St) (ρ2 : Env) : Prop := ∀ (i : Nat) (C : Addr) (ns : List Str) (ds : List D), ρ2[i]? = some (Sl.ow (.obj C ns ds)) → σ2[i]? = σ[i]? ∧ ∃ C' ns' ds', ρ[i]? = some (Sl.ow (.obj C' ns' ds'))
theorem ObK.refl : ObK σ ρ σ ρ := fun i C ns ds h => ⟨rfl, C, ns, ds, h⟩
theorem ObK.trans (a : ObK σ ρ σ2 ρ2) (b : ObK σ2 ρ2 σ3 ρ3) : ObK σ ρ σ3 ρ3 := fun i C ns ds h => by
  obtain ⟨h1, C', ns', ds', h2⟩ := b i C ns ds h
  obtain ⟨h3, h4⟩ := a i C' ns' ds' h2
  exact ⟨h1.trans h3, h4⟩
/-- a slot is written with what is no own instance -/
theorem obk_set {i : Nat} {s : Sl} {o : Option V} (hs : ∀ C ns ds, s ≠ Sl.ow (.obj C ns ds)) : ObK σ ρ (σ.set i o) (ρ.set i s) := fun j C ns ds h => by
  have hj : i ≠ j := fun e => by
    subst e
    have hi : i < ρ.length := by
      have := (List.getElem?_eq_some_iff.mp h).1
      rwa [List.length_set] at this
    rw [List.getElem?_set_self hi] at h
    exact hs C ns ds (Option.some.inj h)
  rw [List.getElem?_set_ne hj] at h ⊢
  exact ⟨rfl, C, ns, ds, h⟩
theorem obk_same {i : Nat} {s : Sl} (hs : ∀ C ns ds, s = Sl.ow (.obj C ns ds) → ∃ C' ns' ds', ρ[i]? = some (Sl.ow (.obj C' ns' ds'))) : ObK σ ρ σ (ρ.set i s) := fun j C ns ds h => by
  by_cases hj : i = j
  · subst hj
    have hi : i < ρ.length := by
      have := (List.getElem?_eq_some_iff.mp h).1
      rwa [List.length_set] at this
    rw [List.getElem?_set_self hi] at h
    exact ⟨rfl, hs C ns ds (Option.some.inj h)⟩
  · rw [List.getElem?_set_ne hj] at h
    exact ⟨rfl, C, ns, ds, h⟩
/-- what a statement leaves as it is -/
structure FrS (σ : St) (ρ : Env) (G H : Hp) (σ2 : St) (ρ2 : Env) (G2 H2 : Hp) : Prop where
  g : Ex G G2
  h : ∀ a o, H a = some o → ¬ Own σ ρ a → H2 a = some o
  nw : ∀ a, H a ≠ none → G a = none → ¬ Own σ ρ a → G2 a = none
  ow : ∀ a, Own σ2 ρ2 a → Own σ ρ a ∨ H a = none
  ob : ObK σ ρ σ2 ρ2
/-- .. and a return -/
structure FrR (σ : St) (ρ : Env) (G H G2 H2 : Hp) : Prop where
  g : Ex G G2
  gh : Ex G2 H2
  h : ∀ a o, H a = some o → ¬ Own σ ρ a → H2 a = some o
  nw : ∀ a, H a ≠ none → G a = none → ¬ Own σ ρ a → G2 a = none
theorem FrS.refl : FrS σ ρ G H σ ρ G H := ⟨Ex.refl _, fun _ _ h _ => h, fun _ _ h _ => h, fun _ h => .inl h, .refl⟩
theorem FrS.trans (a : FrS σ ρ G H σ2 ρ2 G2 H2) (b : FrS σ2 ρ2 G2 H2 σ3 ρ3 G3 H3) : FrS σ ρ G H σ3 ρ3 G3 H3 := by
  have no : ∀ {c : Addr} {o : HO}, H c = some o → ¬ Own σ ρ c → ¬ Own σ2 ρ2 c := fun {c o} h n z => by
    rcases a.ow c z with q | q
    · exact n q
    · rw [h] at q; cases q
  refine ⟨a.g.trans b.g, fun c o h n => b.h c o (a.h c o h n) (no h n), fun c h1 h2 n => ?_, fun c z => ?_, a.ob.trans b.ob⟩
  · obtain ⟨o, ho⟩ := Option.ne_none_iff_exists'.mp h1
    exact b.nw c (by rw [a.h c o ho n]; exact fun z => by cases z) (a.nw c h1 h2 n) (no ho n)
  · rcases b.ow c z with q | q
    · exact a.ow c q
    · by_cases n : Own σ ρ c
      · exact .inl n
      · cases e : H c with
        | none => exact .inr rfl
        | some o => rw [a.h c o e n] at q; cases q
theorem FrS.transR (a : FrS σ ρ G H σ2 ρ2 G2 H2) (b : FrR σ2 ρ2 G2 H2 G3 H3) : FrR σ ρ G H G3 H3 := by
  have no : ∀ {c : Addr} {o : HO}, H c = some o → ¬ Own σ ρ c → ¬ Own σ2 ρ2 c := fun {c o} h n z => by
    rcases a.ow c z with q | q
    · exact n q
    · rw [h] at q; cases q
  refine ⟨a.g.trans b.g, b.gh, fun c o h n => b.h c o (a.h c o h n) (no h n), fun c h1 h2 n => ?_⟩
  obtain ⟨o, ho⟩ := Option.ne_none_iff_exists'.mp h1
  exact b.nw c (by rw [a.h c o ho n]; exact fun z => by cases z) (a.nw c h1 h2 n) (no ho n)
theorem FrS.of (f : Fr G H G2 H2) : FrS σ ρ G H σ ρ G2 H2 := ⟨f.g, fun a o h _ => f.h a o h, fun a h1 h2 _ => f.nw a h1 h2, fun _ h => .inl h, .refl⟩
theorem FrR.of (f : Fr G H G2 H2) : FrR σ ρ G H G2 H2 := ⟨f.g, f.gh, fun a o h _ => f.h a o h, fun a h1 h2 _ => f.nw a h1 h2⟩
theorem FrS.sub (hs : ∀ a, Own σ2 ρ2 a → Own σ ρ a) (ho : ObK σ ρ σ2 ρ2) : FrS σ ρ G H σ2 ρ2 G H := ⟨Ex.refl _, fun _ _ h _ => h, fun _ _ h _ => h, fun a h => .inl (hs a h), ho⟩
end
/-! ### statements -/
inductive Out where
  | nx (ρ : Env)
  | rt (d : D)
  | bk (ρ : Env)
  | ct (ρ : Env)
def EndOk (De : Ends) (σ : St) (ρ : Env) (G H : Hp) : Out → Prop
  | .nx ρ2 => ∀ σ2 G2 H2, EnvOk G2 H2 σ2 ρ2 → FrS σ ρ G H σ2 ρ2 G2 H2 → De.nx σ2 H2
  | .bk ρ2 => ∀ σ2 G2 H2, EnvOk G2 H2 σ2 ρ2 → FrS σ ρ G H σ2 ρ2 G2 H2 → De.bk σ2 H2
  | .ct ρ2 => ∀ σ2 G2 H2, EnvOk G2 H2 σ2 ρ2 → FrS σ ρ G H σ2 ρ2 G2 H2 → De.ct σ2 H2
  | .rt d => ∀ v G2 H2, FrR σ ρ G H G2 H2 → Rep G2 d v → De.rt v H2
def StS (t : TS) (Φ : Env → Option Out) : Prop := ∀ ρ o, Φ ρ = some o → ∀ (G H : Hp) (σ : St), EnvOk G H σ ρ → ∀ De : Ends, EndOk De σ ρ G H o → t De σ H
structure StD (X : Cx) (st : Stmt) (t : TS) (Φ : Env → Option Out) : Prop where
  ps : PS X st t
  ev : StS t Φ
structure SsD (X : Cx) (st : List Stmt) (t : TS) (Φ : Env → Option Out) : Prop where
  ps : PSs X st t
  ev : StS t Φ
def TgS (g : TG) (θ : D → Env → Option Env) : Prop := ∀ d ρ ρ2, θ d ρ = some ρ2 → ∀ (G H : Hp) (σ : St) (v : V), EnvOk G H σ ρ → Rep G d v → ∀ Q : St → Hp → Prop, (∀ σ2, EnvOk G H σ2 ρ2 → (∀ a, Own σ2 ρ2 a → Own σ ρ a) → ObK σ ρ σ2 ρ2 → Q σ2 H) → g v σ H Q
structure TgD (X : Cx) (tg : Expr) (g : TG) (θ : D → Env → Option Env) : Prop where
  pg : PG X tg g
  ev : TgS g θ
def TgsS (g : TGs) (θ : List D → Env → Option Env) : Prop := ∀ ds ρ ρ2, θ ds ρ = some ρ2 → ∀ (G H : Hp) (σ : St) (vs : List V), EnvOk G H σ ρ → Reps G ds vs → ∀ Q : St → Hp → Prop, (∀ σ2, EnvOk G H σ2 ρ2 → (∀ a, Own σ2 ρ2 a → Own σ ρ a) → ObK σ ρ σ2 ρ2 → Q σ2 H) → g vs σ H Q
structure TgsD (X : Cx) (tg : List Expr) (g : TGs) (θ : List D → Env → Option Env) : Prop where
  pg : PGs X tg g
  ev : TgsS g θ
section
variable {X : Cx} {e tg : Expr} {es : List Expr} {t : TE} {φ : Env → Option D} {ψ : Env → Option (List D)} {g : TG} {θ : D → Env → Option Env} {st : Stmt} {rest a b : List Stmt} {pos : Pos} {ts tu : TS} {Φ Ψ : Env → Option Out} {χ : Env → Option Bool} {tt : TT}
def setF (i : Nat) : D → Env → Option Env := fun d ρ => some (ρ.set i (Sl.pu d))
theorem tg_name {i : Nat} (h : PG X tg (gName i)) : TgD X tg (gName i) (setF i) := ⟨h, fun d ρ ρ2 e G H σ v x r Q k => by
  cases e
  exact k _ (x.setP r i) (fun a z => own_setP x.len z) (obk_set fun _ _ _ z => by cases z)⟩
def nilT : List D → Env → Option Env := fun ds ρ => match ds with
  | [] => some ρ
  | _ => none
def consT (θ : D → Env → Option Env) (τ : List D → Env → Option Env) : List D → Env → Option Env := fun ds ρ => match ds with
  | d :: r => (θ d ρ).bind (τ r)
  | _ => none
theorem tgs_nil : TgsD X [] gNil nilT := ⟨pgs_nil, fun ds ρ ρ2 e G H σ vs x r Q k => by
  unfold nilT at e
  split at e
  · cases e
    rw [r.un0]
    exact ⟨rfl, k σ x (fun _ z => z) .refl⟩
  · cases e⟩
theorem tgs_cons {gs : TGs} {τ : List D → Env → Option Env} (h : TgD X e g θ) (hr : TgsD X es gs τ) (hs : (assignEach (e :: es) X.env).map (·.2) = assign e X.env :: (assignEach es X.env).map (·.2) := by rfl) : TgsD X (e :: es) (gCons g gs) (consT θ τ) := ⟨pgs_cons h.pg hr.pg hs, fun ds ρ ρ2 e G H σ vs x r Q k => by
  unfold consT at e
  split at e
  · rename_i d r'
    obtain ⟨ρ1, e1, e2⟩ := Option.bind_eq_some_iff.mp e
    obtain ⟨u, us, rfl, q, tl⟩ := r.un
    refine ⟨u, us, rfl, h.ev d ρ ρ1 e1 G H σ u x q _ fun σ1 x1 s1 o1 => ?_⟩
    exact hr.ev r' ρ1 ρ2 e2 G H σ1 us x1 tl Q fun σ2 x2 s2 o2 => k σ2 x2 (fun c z => s1 c (s2 c z)) (o1.trans o2)
  · cases e⟩
def tupT (n : Nat) (τ : List D → Env → Option Env) : D → Env → Option Env := fun d ρ => match d with
  | .seq false ds => if ds.length = n then τ ds ρ else none
  | _ => none
theorem tg_tup {k : Nat} {n : Nat} {gs : TGs} {τ : List D → Env → Option Env} (hc : X.calm = true) (h : TgsD X es gs τ) (hn : (assignEach es X.env).length = n := by rfl) (hst : (assignEach es X.env).findIdx? (·.1) = none := by rfl) :
    TgD X (.Tuple es k pos) (gTup X.K n gs) (tupT n τ) := ⟨pg_tup hc h.pg hn hst, fun d ρ ρ2 e G H σ v x r Q k => by
  unfold tupT at e
  split at e
  · rename_i ds
    split at e
    · rename_i hl
      obtain ⟨a, us, rfl, h1, _, q⟩ := r.un_sq
      exact ⟨a, us, rfl, SqT.of (x.gh _ _ h1), by rw [q.len]; exact hl, h.ev ds ρ ρ2 e G H σ us x q Q k⟩
    · cases e
  · cases e⟩
/-! assignments -/
def asgF (φ : Env → Option D) (θ : D → Env → Option Env) : Env → Option Out := fun ρ => (φ ρ).bind fun d => (θ d ρ).map Out.nx
theorem asg_ev (he : PuS t φ) (hg : TgS g θ) : StS (tAsg t g) (asgF φ θ) := fun ρ o e G H σ x De k => by
  obtain ⟨d, e1, e2⟩ := Option.bind_eq_some_iff.mp e
  obtain ⟨ρ2, e3, rfl⟩ := Option.map_eq_some_iff.mp e2
  refine he ρ d e1 G H σ x _ fun v G1 H1 f1 r1 => ?_
  exact hg d ρ ρ2 e3 G1 H1 σ v (x.mono f1) r1 _ fun σ2 x2 s2 o2 => k σ2 G1 H1 x2 ((FrS.of f1).trans (FrS.sub s2 o2))
theorem sd_set {i : Nat} {x : Str} {pos' : Pos} (h : PuD X e t φ) (hp : PS X (.Assign [.Name x pos'] e pos) (tAsg t (gName i))) : StD X (.Assign [.Name x pos'] e pos) (tAsg t (gName i)) (asgF φ (setF i)) :=
  ⟨hp, asg_ev h.ev fun d ρ ρ2 e G H σ v x r Q k => by cases e; exact k _ (x.setP r i) (fun a z => own_setP x.len z) (obk_set fun _ _ _ z => by cases z)⟩
theorem sd_asg (h : PuD X e t φ) (hg : TgD X tg g θ) (hs : swapsWithSole [tg] e pos.line X.env = pure false := by rfl) (hw : swappedStores [tg] e X.env = pure none := by rfl)
    (h1 : (assignEach [tg] X.env).map (·.2) = [assign tg X.env] := by rfl) : StD X (.Assign [tg] e pos) (tAsg t g) (asgF φ θ) := ⟨ps_asg h.pe hg.pg hs hw h1, asg_ev h.ev hg.ev⟩
def asgO (i : Nat) (ψ : Env → Option (List D)) : Env → Option Out := fun ρ => (ψ ρ).map fun ds => .nx (ρ.set i (Sl.ow (.seq true ds)))
theorem own_free {G H : Hp} {σ : St} {ρ : Env} (x : EnvOk G H σ ρ) {p : Addr} (n : H p = none) : ¬ Own σ ρ p := fun ⟨i, ds, h1, h2⟩ => by
  obtain ⟨q, o, h3, h4, h5, _⟩ := x.ow i ds h1
  rw [h2] at h3
  cases h3
  rw [n] at h5
  cases h5
theorem sd_setO {i : Nat} {x : Str} {pos' : Pos} (h : OwD X e t ψ) (hp : PS X (.Assign [.Name x pos'] e pos) (tAsg t (gName i))) : StD X (.Assign [.Name x pos'] e pos) (tAsg t (gName i)) (asgO i ψ) := ⟨hp, fun ρ o e G H σ x De k => by
  obtain ⟨ds, e1, rfl⟩ := Option.map_eq_some_iff.mp e
  refine h.ev ρ ds e1 G H σ x _ fun p us G1 H1 f1 n1 n2 hp hl r => ?_
  have x1 := x.mono f1
  refine k _ G1 H1 (x1.setO i n2 hp ⟨us, rfl, hl, r⟩ fun j es _ h1 h2 => own_free x n1 ⟨j, es, h1, h2⟩) ⟨f1.g, fun a o h _ => f1.h a o h, fun a h1 h2 _ => f1.nw a h1 h2, fun a z => ?_, obk_set fun _ _ _ z => by cases z⟩
  rcases own_setO x.len z with q | q
  · exact .inl q
  · rw [q]; exact .inr n1⟩
/-! sequences -/
def seqF (Φ Ψ : Env → Option Out) : Env → Option Out := fun ρ => (Φ ρ).bind fun o => match o with
  | .nx ρ2 => Ψ ρ2
  | o => some o
theorem seq_ev (h1 : StS ts Φ) (h2 : StS tu Ψ) : StS (tSeq ts tu) (seqF Φ Ψ) := fun ρ o e G H σ x De k => by
  obtain ⟨o1, e1, e2⟩ := Option.bind_eq_some_iff.mp e
  refine h1 ρ o1 e1 G H σ x _ ?_
  cases o1 with
  | nx ρ2 =>
    intro σ2 G2 H2 x2 f2
    refine h2 ρ2 o e2 G2 H2 σ2 x2 De ?_
    cases o with
    | nx ρ3 => exact fun σ3 G3 H3 x3 f3 => k σ3 G3 H3 x3 (f2.trans f3)
    | bk ρ3 => exact fun σ3 G3 H3 x3 f3 => k σ3 G3 H3 x3 (f2.trans f3)
    | ct ρ3 => exact fun σ3 G3 H3 x3 f3 => k σ3 G3 H3 x3 (f2.trans f3)
    | rt d => exact fun v G3 H3 f3 r3 => k v G3 H3 (f2.transR f3) r3
  | rt d => cases e2; exact k
  | bk ρ2 => cases e2; exact k
  | ct ρ2 => cases e2; exact k
theorem ss_nil : SsD X [] tNext (fun ρ => some (.nx ρ)) := ⟨pss_nil, fun ρ o e G H σ x De k => by cases e; exact k σ G H x .refl⟩
theorem ss_one (h : StD X st ts Φ) : SsD X [st] ts Φ := ⟨pss_one h.ps, h.ev⟩
theorem ss_cons (h : StD X st ts Φ) (hr : SsD X rest tu Ψ) : SsD X (st :: rest) (tSeq ts tu) (seqF Φ Ψ) := ⟨pss_cons h.ps hr.ps, seq_ev h.ev hr.ev⟩
/-- what is never come to -/
theorem ss_never : SsD X rest tNever (fun _ => none) := ⟨⟨fun _ _ _ _ _ _ h => False.elim h⟩, fun ρ o e => by cases e⟩
theorem sd_never : StD X st tNever (fun _ => none) := ⟨⟨fun _ _ _ _ _ _ h => False.elim h⟩, fun ρ o e => by cases e⟩
theorem pu_never : PuD X e (fun _ _ _ => False) (fun _ => none) := ⟨⟨fun _ _ _ _ _ _ h => h.elim⟩, fun ρ o e => by cases e⟩
theorem te_never : TeD X e (fun _ _ _ => False) (fun _ => none) := ⟨⟨fun _ _ _ _ _ _ h => h.elim⟩, fun ρ o e => by cases e⟩
/-! return, if, calls alone -/
def retF (φ : Env → Option D) : Env → Option Out := fun ρ => (φ ρ).map Out.rt
theorem sd_ret (h : PuD X e t φ) : StD X (.Return (some e) pos) (tRet t) (retF φ) := ⟨ps_ret h.pe, fun ρ o e G H σ x De k => by
  obtain ⟨d, e1, rfl⟩ := Option.map_eq_some_iff.mp e
  exact h.ev ρ d e1 G H σ x _ fun v G1 H1 f1 r1 => k v G1 H1 (FrR.of f1) r1⟩
/-- an own list is handed back -/
def retO (i : Nat) : Env → Option Out := fun ρ => match ρ[i]? with
  | some (.ow d) => some (.rt d)
  | some (.pu d) => some (.rt d)
  | _ => none
theorem sd_retO {i : Nat} {x : Str} {p : Pos} (h : PE X (.Name x p) (tVar i)) : StD X (.Return (some (.Name x p)) pos) (tRet (tVar i)) (retO i) := ⟨ps_ret h, fun ρ o e G H σ x De k => by
  unfold retO at e
  split at e
  · rename_i ds h1
    cases e
    obtain ⟨p, ob, h2, h3, h4, h5⟩ := x.ow i ds h1
    refine ⟨_, h2, k _ (upd G p ob) H ⟨Ex.new h3, fun a o z => ?_, fun a o z _ => z, fun a z1 z2 z3 => ?_⟩ (h5.rep (Ex.new h3) upd_same)⟩
    · by_cases q : a = p
      · rw [q, upd_same] at z; cases z; rw [q]; exact h4
      · rw [upd_ne q] at z; exact x.gh _ _ z
    · have : a ≠ p := fun q => z3 ⟨i, ds, h1, q ▸ h2⟩
      rw [upd_ne this]; exact z2
  · rename_i d h1
    cases e
    obtain ⟨v, h2, h3⟩ := x.pu i d h1
    exact ⟨_, h2, k v G H (FrR.of (.refl x.gh)) h3⟩
  · cases e⟩
def ifS (χ : Env → Option Bool) (Φ Ψ : Env → Option Out) : Env → Option Out := fun ρ => (χ ρ).bind fun b => if b = true then Φ ρ else Ψ ρ
theorem endOk_fr {De : Ends} {σ : St} {ρ : Env} {G H G1 H1 : Hp} (f : Fr G H G1 H1) {o : Out} (k : EndOk De σ ρ G H o) : EndOk De σ ρ G1 H1 o := by
  cases o with
  | nx ρ3 => exact fun σ3 G3 H3 x3 f3 => k σ3 G3 H3 x3 ((FrS.of f).trans f3)
  | bk ρ3 => exact fun σ3 G3 H3 x3 f3 => k σ3 G3 H3 x3 ((FrS.of f).trans f3)
  | ct ρ3 => exact fun σ3 G3 H3 x3 f3 => k σ3 G3 H3 x3 ((FrS.of f).trans f3)
  | rt d => exact fun v G3 H3 f3 r3 => k v G3 H3 ((FrS.of f).transR f3) r3
theorem sd_if {c : Expr} (h : TeD X c tt χ) (ha : SsD X a ts Φ) (hb : SsD X b tu Ψ) : StD X (.If c a b pos) (tIfS tt ts tu) (ifS χ Φ Ψ) := ⟨ps_if h.pt ha.ps hb.ps, fun ρ o e G H σ x De k => by
  obtain ⟨c1, e1, e2⟩ := Option.bind_eq_some_iff.mp e
  refine h.ev ρ c1 e1 G H σ x _ fun G1 H1 f1 => ?_
  cases c1 with
  | true => exact ha.ev ρ o e2 G1 H1 σ (x.mono f1) De (endOk_fr f1 k)
  | false => exact hb.ev ρ o e2 G1 H1 σ (x.mono f1) De (endOk_fr f1 k)⟩
theorem sd_drop (h : PuD X e t φ) (hs : swapsWith e none pos.line X.env = pure false := by rfl) : StD X (.Expr e pos) (tDrop t) (fun ρ => (φ ρ).map fun _ => .nx ρ) := ⟨ps_expr h.pe hs, fun ρ o e G H σ x De k => by
  obtain ⟨d, e1, rfl⟩ := Option.map_eq_some_iff.mp e
  exact h.ev ρ d e1 G H σ x _ fun v G1 H1 f1 r1 => k σ G1 H1 (x.mono f1) (FrS.of f1)⟩
/-! an own thing is written to -/
theorem grow_ok {G H : Hp} {σ : St} {ρ : Env} (x : EnvOk G H σ ρ) {i : Nat} {xs ys : D} {p : Addr} {ob : HO} (hk : ∀ C ns ds, ys = .obj C ns ds → ∃ C' ns' ds', xs = .obj C' ns' ds') (h1 : ρ[i]? = some (Sl.ow xs)) (h2 : σ[i]? = some (some (V.ref p))) (r : Top G ys ob) :
    EnvOk G (upd H p ob) σ (ρ.set i (Sl.ow ys)) ∧ FrS σ ρ G H σ (ρ.set i (Sl.ow ys)) G (upd H p ob) := by
  have hi : i < ρ.length := (List.getElem?_eq_some_iff.mp h1).1
  obtain ⟨p', o', h3, h4, h5, h6⟩ := x.ow i xs h1
  rw [h2] at h3
  cases h3
  have op : Own σ ρ p := ⟨i, xs, h1, h2⟩
  have oth : ∀ {j : Nat} {s : Sl}, i ≠ j → (ρ.set i (Sl.ow ys))[j]? = some s → ρ[j]? = some s := fun {j s} n e => by rwa [List.getElem?_set_ne n] at e
  refine ⟨⟨fun a o z => ?_, by rw [List.length_set]; exact x.len, fun j e h => ?_, fun j es h => ?_, fun j k es fs q a1 a2 a3 a4 => ?_⟩, ⟨Ex.refl _, fun a o z n => ?_, fun _ _ z _ => z, fun a z => ?_, obk_same fun C ns ds e => ?_⟩⟩
  · have : a ≠ p := fun q => by rw [q, h4] at z; cases z
    rw [upd_ne this]; exact x.gh _ _ z
  · by_cases n : i = j
    · subst n; rw [List.getElem?_set_self hi] at h; cases h
    · exact x.pu j e (oth n h)
  · by_cases n : i = j
    · subst n
      rw [List.getElem?_set_self hi] at h
      cases h
      exact ⟨p, ob, h2, h4, upd_same, r⟩
    · obtain ⟨q, o2, b1, b2, b3, b4⟩ := x.ow j es (oth n h)
      have : q ≠ p := fun e => n (x.inj i j xs es p h1 (oth n h) h2 (e ▸ b1))
      exact ⟨q, o2, b1, b2, by rw [upd_ne this]; exact b3, b4⟩
  · have un : ∀ {j : Nat} {es : D}, (ρ.set i (Sl.ow ys))[j]? = some (Sl.ow es) → ∃ fs, ρ[j]? = some (Sl.ow fs) := fun {j es} h => by
      by_cases n : i = j
      · subst n; exact ⟨xs, h1⟩
      · exact ⟨es, oth n h⟩
    obtain ⟨e1, a1⟩ := un a1
    obtain ⟨e2, a2⟩ := un a2
    exact x.inj j k e1 e2 q a1 a2 a3 a4
  · have : a ≠ p := fun q => n (q ▸ op)
    rw [upd_ne this]; exact z
  · obtain ⟨j, es, a1, a2⟩ := z
    by_cases n : i = j
    · subst n; exact .inl ⟨i, xs, h1, a2⟩
    · exact .inl ⟨j, es, oth n a1, a2⟩
  · obtain ⟨C', ns', ds', e2⟩ := hk C ns ds (by injection e)
    exact ⟨C', ns', ds', by rw [h1, e2]⟩
def growF {β : Type} (i : Nat) (φ : Env → Option β) (op : List D → β → List D) : Env → Option Out := fun ρ => match ρ[i]? with
  | some (.ow (.seq true xs)) => (φ ρ).bind fun d => if (op xs d).length ≤ Lim then some (.nx (ρ.set i (Sl.ow (.seq true (op xs d))))) else none
  | _ => none
theorem sd_app {i : Nat} {o : Expr} {apos cpos : Pos} (h : PuD X e t φ) (hp : PS X (.Expr (.Call (.Attribute o "append" apos) [e] [] cpos) pos) (tDrop (tBM X.K "list" rAppend (tVar i) (tCons t tNil)))) :
    StD X (.Expr (.Call (.Attribute o "append" apos) [e] [] cpos) pos) (tDrop (tBM X.K "list" rAppend (tVar i) (tCons t tNil))) (growF i φ fun xs d => xs ++ [d]) := ⟨hp, fun ρ o e G H σ x De k => by
  unfold growF at e
  split at e
  · rename_i xs h1
    obtain ⟨d, e1, e2⟩ := Option.bind_eq_some_iff.mp e
    split at e2
    · rename_i hl
      cases e2
      obtain ⟨p, ob, h2, h3, h4, us, rfl, h5, h6⟩ := x.ow i _ h1
      refine ⟨_, h2, .inl ⟨rfl, _, SqL.of h4⟩, h.ev ρ d e1 G H σ x _ fun v G1 H1 f1 r1 => ?_⟩
      have g := grow_ok (x.mono f1) (fun _ _ _ z => by cases z) (ys := .seq true (xs ++ [d])) (ob := .lst (us ++ [v])) h1 h2 ⟨_, rfl, hl, (h6.mono f1.g).app (.cons r1 .nil)⟩
      refine ⟨p, us, v, rfl, rfl, f1.h _ _ h4, ?_, k σ G1 _ g.1 ((FrS.of f1).trans g.2)⟩
      have : us.length ≤ Lim := by rw [h6.len]; exact h5
      rw [sizeLine_eq]; have : Lim = 5000 := rfl; omega
    · cases e2
  · cases e⟩
def extArg (φ : Env → Option D) : Env → Option (List D) := fun ρ => (φ ρ).bind fun d => match d with
  | .seq true ds => some ds
  | _ => none
theorem sd_ext {i : Nat} {o : Expr} {apos cpos : Pos} (h : PuD X e t φ) (hp : PS X (.Expr (.Call (.Attribute o "extend" apos) [e] [] cpos) pos) (tDrop (tBM X.K "list" rExtend (tVar i) (tCons t tNil)))) :
    StD X (.Expr (.Call (.Attribute o "extend" apos) [e] [] cpos) pos) (tDrop (tBM X.K "list" rExtend (tVar i) (tCons t tNil))) (growF i (extArg φ) fun xs ds => xs ++ ds) := ⟨hp, fun ρ o e G H σ x De k => by
  unfold growF at e
  split at e
  · rename_i xs h1
    obtain ⟨ds, e1, e2⟩ := Option.bind_eq_some_iff.mp e
    obtain ⟨d, e3, e6⟩ := Option.bind_eq_some_iff.mp e1
    split at e6
    · cases e6
      split at e2
      · rename_i hl
        cases e2
        obtain ⟨p, ob, h2, h3, h4, us, rfl, h5, h6⟩ := x.ow i _ h1
        refine ⟨_, h2, .inl ⟨rfl, _, SqL.of h4⟩, h.ev ρ _ e3 G H σ x _ fun v G1 H1 f1 r1 => ?_⟩
        obtain ⟨q, ws, rfl, q1, q2, q3⟩ := r1.un_sq
        have g := grow_ok (x.mono f1) (fun _ _ _ z => by cases z) (ys := .seq true (xs ++ ds)) (ob := .lst (us ++ ws)) h1 h2 ⟨_, rfl, hl, (h6.mono f1.g).app q3⟩
        refine ⟨p, q, us, ws, rfl, rfl, f1.h _ _ h4, f1.gh _ _ q1, ?_, k σ G1 _ g.1 ((FrS.of f1).trans g.2)⟩
        have h7 : us.length ≤ Lim := by rw [h6.len]; exact h5
        have h8 : ws.length ≤ Lim := by rw [q3.len]; exact q2
        exact lim_line (by omega)
      · cases e2
    · cases e6
  · cases e⟩
/-! ### what is walked -/
def ItS (wi : TI) (ψ : Env → Option (List D)) : Prop := ∀ ρ ds, ψ ρ = some ds → ∀ (G H : Hp) (σ : St), EnvOk G H σ ρ → ∀ R : It → Hp → Prop,
  (∀ J G2 H2 (Γ : Hp → Prop) Y, Fr G H G2 H2 → Walk J ds.length Γ Y → (∀ H', Ex G2 H' → Γ H') →
    (∀ i H' x H'' G', i < ds.length → Ex G2 G' → Ex G' H' → Y i H' x H'' → ∃ d G'', ds[i]? = some d ∧ Fr G' H' G'' H'' ∧ Rep G'' d x) → R J H2) → wi σ H R
structure ItD (X : Cx) (tg e : Expr) (wi : TI) (ψ : Env → Option (List D)) : Prop where
  pi : PI X tg e wi
  ev : ItS wi ψ
theorem PI.or {tg e : Expr} {w1 w2 : TI} (h1 : PI X tg e w1) (h2 : PI X tg e w2) : PI X tg e (fun σ H R => w1 σ H R ∨ w2 σ H R) := ⟨fun pins s σ H R I h => h.elim (h1.run pins s σ H R I) (h2.run pins s σ H R I)⟩
def seqsF (φ : Env → Option D) : Env → Option (List D) := fun ρ => (φ ρ).bind fun d => match d with
  | .seq _ ds => some ds
  | _ => none
theorem seqsF_un {ρ : Env} {ds : List D} (h : seqsF φ ρ = some ds) : ∃ b, φ ρ = some (.seq b ds) := by
  obtain ⟨d, h1, h2⟩ := Option.bind_eq_some_iff.mp h
  split at h2
  · cases h2; exact ⟨_, h1⟩
  · cases h2
theorem yat_ok {us : List V} {ds : List D} {G2 : Hp} (r : Reps G2 ds us) : ∀ i H' x H'' G', i < ds.length → Ex G2 G' → Ex G' H' → YAt us i H' x H'' → ∃ d G'', ds[i]? = some d ∧ Fr G' H' G'' H'' ∧ Rep G'' d x := fun i H' x H'' G' hi g gh ⟨e, h⟩ => by
  subst e
  obtain ⟨d, h1, h2⟩ := r.getV h
  exact ⟨d, G', h1, .refl gh, h2.mono g⟩
/-- for x in a list, a tuple -/
theorem it_seq (h : PuD X e t φ) : ItD X tg e (fun σ H R => iList X.K t σ H R ∨ iTup X.K t σ H R) (seqsF φ) := ⟨PI.or (pi_list h.pe) (pi_tup h.pe), fun ρ ds ee G H σ x R k => by
  obtain ⟨b, e1⟩ := seqsF_un ee
  cases b with
  | true =>
    refine .inl (h.ev ρ _ e1 G H σ x _ fun v G1 H1 f1 r1 => ?_)
    obtain ⟨a, us, rfl, h1, h2, h3⟩ := r1.un_sq
    refine ⟨a, rfl, ⟨us, SqL.of (f1.gh _ _ h1)⟩, k _ G1 H1 (fun H => SqL X.K H a us) _ f1 (by rw [← h3.len]; exact walk_list) (fun H' g => SqL.of (g _ _ h1)) (yat_ok h3)⟩
  | false =>
    refine .inr (h.ev ρ _ e1 G H σ x _ fun v G1 H1 f1 r1 => ?_)
    obtain ⟨a, us, rfl, h1, h2, h3⟩ := r1.un_sq
    refine ⟨a, rfl, ⟨us, SqT.of (f1.gh _ _ h1)⟩, k _ G1 H1 (fun H => SqT X.K H a us) _ f1 (by rw [← h3.len]; exact walk_tup) (fun H' g => SqT.of (g _ _ h1)) (yat_ok h3)⟩⟩
/-- for c in a text -/
def signs (z : Str) : List D := z.cps.toList.map fun c => .leaf (.str ⟨#[c]⟩)
def strsF (φ : Env → Option D) : Env → Option (List D) := fun ρ => (φ ρ).bind fun d => match d with
  | .leaf (.str z) => some (signs z)
  | _ => none
theorem it_str (h : PuD X e t φ) : ItD X tg e (iStr t) (strsF φ) := ⟨pi_str h.pe, fun ρ ds ee G H σ x R k => by
  obtain ⟨d, e1, e2⟩ := Option.bind_eq_some_iff.mp ee
  split at e2
  · rename_i z
    cases e2
    refine h.ev ρ _ e1 G H σ x _ fun v G1 H1 f1 r1 => ?_
    obtain ⟨rfl, _⟩ := r1.un_lf
    have hl : (signs z).length = z.cps.size := by unfold signs; rw [List.length_map, Array.length_toList]
    refine ⟨z, rfl, k _ G1 H1 (fun _ => True) _ f1 (by rw [hl]; exact walk_str) (fun _ _ => trivial) fun i H' y H'' G' hi g gh yy => ?_⟩
    obtain ⟨e3, c, hc, rfl⟩ := yy
    subst e3
    refine ⟨.leaf (.str ⟨#[c]⟩), G', ?_, .refl gh, .lf rfl⟩
    unfold signs
    rw [List.getElem?_map, Array.getElem?_toList, hc]
    rfl
  · cases e2⟩
/-- range(n) -/
def rangeL (n : Int) : List D := (List.range n.toNat).map fun i => .leaf (.int (i : Nat))
def rngF (φ : Env → Option D) : Env → Option (List D) := fun ρ => (φ ρ).bind fun d => match d with
  | .leaf (.int n) => if n ≤ 1000 ∧ -1000 ≤ n then some (rangeL n) else none
  | _ => none
theorem it_rng {p : Pos} (h : PuD X e t φ) (hg : Gl X "range") (hm : X.mg "range" = none) (hs : starEach [e] X.env = [(false, eval e X.env)] := by rfl) : ItD X tg (.Call (.Name "range" p) [e] [] pos) (iRng1 (tCons t tNil)) (rngF φ) := ⟨pi_range1 hg hm (pa_cons h.pe pa_nil hs) hs, fun ρ ds ee G H σ x R k => by
  obtain ⟨d, e1, e2⟩ := Option.bind_eq_some_iff.mp ee
  split at e2
  · rename_i n
    split at e2
    · rename_i hn
      cases e2
      refine h.ev ρ _ e1 G H σ x _ fun v G1 H1 f1 r1 => ?_
      obtain ⟨rfl, _⟩ := r1.un_lf
      have hl : (rangeL n).length = n.toNat := by unfold rangeL; rw [List.length_map, List.length_range]
      refine ⟨n, rfl, by omega, by omega, k _ G1 H1 (fun _ => True) _ f1 (by rw [hl]; exact walk_range) (fun _ _ => trivial) fun i H' y H'' G' hi g gh yy => ?_⟩
      obtain ⟨e3, rfl⟩ := yy
      subst e3
      rw [hl] at hi
      refine ⟨.leaf (.int (i : Nat)), G', ?_, .refl gh, by show Rep G' (D.leaf (V.int (i : Nat))) (V.int (0 + (i : Nat))); rw [Int.zero_add]; exact .lf rfl⟩
      unfold rangeL
      rw [List.getElem?_map, List.getElem?_range hi]
      rfl
    · cases e2
  · cases e2⟩
theorem ypair_ok {f g : Nat → Option V} {ds : List D} {n : Nat} {G2 : Hp} (hf : ∀ (i : Nat) (x y : V), i < n → f i = some x → g i = some y → ∃ d1 d2, ds[i]? = some (.seq false [d1, d2]) ∧ Rep G2 d1 x ∧ Rep G2 d2 y) :
    ∀ i H' x H'' G', i < n → Ex G2 G' → Ex G' H' → YPair f g i H' x H'' → ∃ d G'', ds[i]? = some d ∧ Fr G' H' G'' H'' ∧ Rep G'' d x := fun i H' x H'' G' hi e gh yy => by
  obtain ⟨T, a, b, rfl, nT, rfl, h1, h2⟩ := yy
  obtain ⟨d1, d2, h3, h4, h5⟩ := hf i a b hi h1 h2
  have n2 := gh.back nT
  exact ⟨_, upd G' T (.tup [a, b]), h3, .new gh nT, .sq (b := false) upd_same (by show 2 ≤ Lim; decide) (.cons (h4.mono (e.trans (Ex.new n2))) (.cons (h5.mono (e.trans (Ex.new n2))) .nil))⟩
/-- enumerate(..) -/
def enumL : Nat → List D → List D
  | _, [] => []
  | i, d :: r => .seq false [.leaf (.int (i : Nat)), d] :: enumL (i + 1) r
theorem enum_get : ∀ {ds : List D} {j i : Nat} {d : D}, ds[i]? = some d → (enumL j ds)[i]? = some (.seq false [.leaf (.int ((j + i : Nat) : Int)), d])
  | [], j, i, d, h => by simp at h
  | d0 :: r, j, 0, d, h => by cases h; rfl
  | d0 :: r, j, i + 1, d, h => by
    have := enum_get (j := j + 1) (i := i) (d := d) (by simpa using h)
    rw [show j + (i + 1) = j + 1 + i by omega]
    simpa [enumL] using this
theorem enum_len : ∀ (ds : List D) (j : Nat), (enumL j ds).length = ds.length
  | [], _ => rfl
  | d :: r, j => by rw [enumL, List.length_cons, List.length_cons, enum_len r]
theorem it_enum {p tpos : Pos} {elts : List Expr} {kk : Nat} (h : PuD X e t φ) (hg : Gl X "enumerate") (hm : X.mg "enumerate" = none) (hs : starEach [e] X.env = [(false, eval e X.env)] := by rfl) :
    ItD X (.Tuple elts kk tpos) (.Call (.Name "enumerate" p) [e] [] pos) (fun σ H R => iEnum X.K (tCons t tNil) σ H R ∨ L2.Vy.iEnT X.K (tCons t tNil) σ H R) (fun ρ => (seqsF φ ρ).map (enumL 0)) :=
  ⟨PI.or (pi_enum hg hm (pa_cons h.pe pa_nil hs) hs) (L2.Vy.pi_enT hg hm (pa_cons h.pe pa_nil hs) hs), fun ρ ds ee G H σ x R k => by
  obtain ⟨es, e1, rfl⟩ := Option.map_eq_some_iff.mp ee
  obtain ⟨b, e2⟩ := seqsF_un e1
  have fin : ∀ {G1 : Hp} {us : List V}, Reps G1 es us → ∀ (i : Nat) (x y : V), i < (enumL 0 es).length → (some (V.int (i : Nat)) : Option V) = some x → us[i]? = some y → ∃ d1 d2, (enumL 0 es)[i]? = some (.seq false [d1, d2]) ∧ Rep G1 d1 x ∧ Rep G1 d2 y := fun {G1 us} r i x y hi h1 h2 => by
    cases h1
    obtain ⟨d, h3, h4⟩ := r.getV h2
    have := enum_get (j := 0) h3
    rw [Nat.zero_add] at this
    exact ⟨_, _, this, .lf rfl, h4⟩
  cases b with
  | true =>
    refine .inl (h.ev ρ _ e2 G H σ x _ fun v G1 H1 f1 r1 => ?_)
    obtain ⟨a, us, rfl, h1, h2, h3⟩ := r1.un_sq
    exact ⟨a, us, rfl, SqL.of (f1.gh _ _ h1), k _ G1 H1 (fun H => SqL X.K H a us) _ f1 (by rw [enum_len, ← h3.len]; exact walk_enum) (fun H' g => SqL.of (g _ _ h1)) (ypair_ok (fin h3))⟩
  | false =>
    refine .inr (h.ev ρ _ e2 G H σ x _ fun v G1 H1 f1 r1 => ?_)
    obtain ⟨a, us, rfl, h1, h2, h3⟩ := r1.un_sq
    exact ⟨a, us, rfl, SqT.of (f1.gh _ _ h1), k _ G1 H1 (fun H => SqT X.K H a us) _ f1 (by rw [enum_len, ← h3.len]; exact L2.Vy.walk_enT) (fun H' g => SqT.of (g _ _ h1)) (ypair_ok (fin h3))⟩⟩
end
end L2.Tr

/-! Trees: for, comprehensions, zip, defs and their calls. -/
namespace L2.Tr
open PySem PySem.Spec PyProof.Rows
section
variable {X : Cx} {e e2 tg : Expr} {es : List Expr} {t ta tb te : TE} {φ φa φb : Env → Option D} {ψ : Env → Option (List D)} {g : TG} {θ : D → Env → Option Env} {pos : Pos} {tu : TS} {Φ : Env → Option Out} {χ : Env → Option Bool} {tt : TT} {wi : TI}
/-! zip of two lists, of two tuples -/
def zipL (xs ys : List D) : List D := (xs.zip ys).map fun p => .seq false [p.1, p.2]
theorem zip_len {xs ys : List D} : (zipL xs ys).length = min xs.length ys.length := by unfold zipL; rw [List.length_map, List.length_zip]
theorem walk_zipTT {K : PySem.W.Frag} {a b : Addr} {xs ys : List V} : Walk (RZ.ItzT K a b) (min xs.length ys.length) (fun H => SqT K H a xs ∧ SqT K H b ys) (YPair (fun i => xs[i]?) (fun i => ys[i]?)) := by
  refine ⟨fun i _ hi q => ?_, fun _ q => ⟨xs, ys, q.1, q.2, by omega⟩, fun i H v H' _ q y => ?_⟩
  · exact ⟨xs, ys, xs[i]'(by omega), ys[i]'(by omega), q.1, q.2, List.getElem?_eq_getElem _, List.getElem?_eq_getElem _⟩
  · obtain ⟨T, x, z, z1, z2, z3, z4, z5⟩ := y
    exact ⟨T, x, z, z1, z2, z3, z4 xs q.1, z5 ys q.2⟩
def zipF (φa φb : Env → Option D) : Env → Option (List D) := bin2 (fun x y => match x, y with
  | .seq b xs, .seq c ys => if b = c then some (zipL xs ys) else none
  | _, _ => none) φa φb
theorem zip_get {G : Hp} {xs ys : List D} {us ws : List V} (r1 : Reps G xs us) (r2 : Reps G ys ws) (i : Nat) (x y : V) (h1 : us[i]? = some x) (h2 : ws[i]? = some y) : ∃ d1 d2, (zipL xs ys)[i]? = some (.seq false [d1, d2]) ∧ Rep G d1 x ∧ Rep G d2 y := by
  obtain ⟨d1, a1, a2⟩ := r1.getV h1
  obtain ⟨d2, b1, b2⟩ := r2.getV h2
  refine ⟨d1, d2, ?_, a2, b2⟩
  unfold zipL
  rw [List.getElem?_map, (List.getElem?_zip_eq_some (z := (d1, d2))).mpr ⟨a1, b1⟩]
  rfl
theorem it_zip {p tpos : Pos} {elts : List Expr} {kk : Nat} (ha : PuD X e ta φa) (hb : PuD X e2 tb φb) (hg : Gl X "zip") (hm : X.mg "zip" = none)
    (hs1 : starEach [e2] X.env = (false, eval e2 X.env) :: starEach [] X.env := by rfl) (hs : starEach [e, e2] X.env = (false, eval e X.env) :: starEach [e2] X.env := by rfl) (hpl : (backTo pos (starEach [e2] X.env)).any (·.1) = false := by rfl) :
    ItD X (.Tuple elts kk tpos) (.Call (.Name "zip" p) [e, e2] [] pos) (RZ.iZipA X.K (tCons ta (tCons tb tNil))) (zipF φa φb) := ⟨RZ.pi_zipA hg hm (pa_cons ha.pe (pa_cons hb.pe pa_nil hs1) hs) hs hpl, fun ρ ds ee G H σ x R k => by
  obtain ⟨d1, d2, e1, e2, e3⟩ := bin2_un ee
  split at e3
  · rename_i b xs c ys
    split at e3
    · rename_i hbc
      subst hbc
      cases e3
      refine ha.ev ρ _ e1 G H σ x _ fun v G1 H1 f1 r1 => ?_
      refine hb.ev ρ _ e2 G1 H1 σ (x.mono f1) _ fun v2 G2 H2 f2 r2 => ?_
      obtain ⟨a1, us, rfl, h1, l1, q1⟩ := (r1.mono f2.g).un_sq
      obtain ⟨a2, ws, rfl, h2, l2, q2⟩ := r2.un_sq
      refine ⟨a1, a2, us, ws, rfl, ?_⟩
      cases b with
      | true => exact .inl ⟨SqL.of (f2.gh _ _ h1), SqL.of (f2.gh _ _ h2), k _ G2 H2 (fun H => SqL X.K H a1 us ∧ SqL X.K H a2 ws) _ (f1.trans f2) (walk_zip (by rw [zip_len, q1.len, q2.len])) (fun H' g => ⟨SqL.of (g _ _ h1), SqL.of (g _ _ h2)⟩) (ypair_ok fun i x y _ z1 z2 => zip_get q1 q2 i x y z1 z2)⟩
      | false => exact .inr ⟨SqT.of (f2.gh _ _ h1), SqT.of (f2.gh _ _ h2), k _ G2 H2 (fun H => SqT X.K H a1 us ∧ SqT X.K H a2 ws) _ (f1.trans f2) (by rw [zip_len, ← q1.len, ← q2.len]; exact walk_zipTT) (fun H' g => ⟨SqT.of (g _ _ h1), SqT.of (g _ _ h2)⟩) (ypair_ok fun i x y _ z1 z2 => zip_get q1 q2 i x y z1 z2)⟩
    · cases e3
  · cases e3⟩
/-! for -/
def loopF (θ : D → Env → Option Env) (Φ : Env → Option Out) : List D → Env → Option Out
  | [], ρ => some (.nx ρ)
  | d :: ds, ρ => (θ d ρ).bind fun ρ1 => (Φ ρ1).bind fun o => match o with
    | .nx ρ2 => loopF θ Φ ds ρ2
    | .ct ρ2 => loopF θ Φ ds ρ2
    | .bk ρ2 => some (.nx ρ2)
    | .rt d => some (.rt d)
def forF (ψ : Env → Option (List D)) (θ : D → Env → Option Env) (Φ : Env → Option Out) : Env → Option Out := fun ρ => (ψ ρ).bind fun ds => loopF θ Φ ds ρ
theorem sd_for {body : List Stmt} (hp : PassesOwn (model X.prog X.w) X.A X.env X.xe) (hc : X.calm = true) (hi : ItD X tg e wi ψ) (hg : TgD X tg g θ) (hb : SsD X body tu Φ) (hs : ∀ x, foldedSetIterable e X.env x = pure x := by intro _; rfl) :
    StD X (.For tg e body [] pos) (tFor wi g tu) (forF ψ θ Φ) := ⟨ps_for hp hc hi.pi hg.pg hb.ps hs, fun ρ o ee G H σ x De k => by
  obtain ⟨ds, e1, e2⟩ := Option.bind_eq_some_iff.mp ee
  refine hi.ev ρ ds e1 G H σ x _ fun J G1 H1 Γ Y f1 wk hΓ hY => ?_
  have x1 := x.mono f1
  refine for_it wk (fun i σ' H' => ∃ G' ρ', Ex G1 G' ∧ EnvOk G' H' σ' ρ' ∧ FrS σ ρ G1 H1 σ' ρ' G' H' ∧ loopF θ Φ (ds.drop i) ρ' = some o) ⟨G1, ρ, Ex.refl _, x1, .refl, by rw [List.drop_zero]; exact e2⟩
    (fun i σ' H' _ ⟨G', ρ', g', x', _, _⟩ => hΓ H' (g'.trans x'.gh)) ?_ ?_
  · rintro i y σ' H' H'' hi' ⟨G', ρ', g', x', f', l'⟩ yy
    obtain ⟨d, G'', h1, f2, r2⟩ := hY i H' y H'' G' hi' g' x'.gh yy
    have hd : ds.drop i = d :: ds.drop (i + 1) := by
      rw [List.drop_eq_getElem_cons hi']
      congr 1
      rw [List.getElem?_eq_getElem hi'] at h1
      exact Option.some.inj h1
    rw [hd] at l'
    unfold loopF at l'
    obtain ⟨ρ1, e3, e4⟩ := Option.bind_eq_some_iff.mp l'
    obtain ⟨o1, e5, e6⟩ := Option.bind_eq_some_iff.mp e4
    refine hg.ev d ρ' ρ1 e3 G'' H'' σ' y (x'.mono f2) r2 _ fun σ2 x2 s2 o2 => ?_
    have fr := f'.trans ((FrS.of f2).trans (FrS.sub s2 o2))
    refine hb.ev ρ1 o1 e5 G'' H'' σ2 x2 _ ?_
    cases o1 with
    | nx ρ2 => exact fun σ3 G3 H3 x3 f3 => ⟨G3, ρ2, g'.trans (f2.g.trans f3.g), x3, fr.trans f3, e6⟩
    | ct ρ2 => exact fun σ3 G3 H3 x3 f3 => ⟨G3, ρ2, g'.trans (f2.g.trans f3.g), x3, fr.trans f3, e6⟩
    | bk ρ2 =>
      intro σ3 G3 H3 x3 f3
      cases e6
      exact k σ3 G3 H3 x3 ((FrS.of f1).trans (fr.trans f3))
    | rt z =>
      intro v G3 H3 f3 r3
      cases e6
      exact k v G3 H3 ((FrS.of f1).transR (fr.transR f3)) r3
  · rintro σ' H' ⟨G', ρ', g', x', f', l'⟩
    rw [List.drop_length] at l'
    cases l'
    exact k σ' G' H' x' ((FrS.of f1).trans f')⟩
/-! comprehensions -/
def wipeE (ρ : Env) : List Nat → Env
  | [] => ρ
  | v :: vs => (wipeE ρ vs).set v Sl.un
theorem wipeE_len (ρ : Env) : ∀ vs : List Nat, (wipeE ρ vs).length = ρ.length
  | [] => rfl
  | v :: vs => by unfold wipeE; rw [List.length_set, wipeE_len ρ vs]
theorem wipeE_get {ρ : Env} {i : Nat} {s : Sl} (hs : s ≠ .un) : ∀ {vs : List Nat}, (wipeE ρ vs)[i]? = some s → ρ[i]? = some s ∧ i ∉ vs
  | [], h => ⟨h, by simp⟩
  | v :: vs, h => by
    unfold wipeE at h
    by_cases hi : v = i
    · subst hi
      by_cases hv : v < (wipeE ρ vs).length
      · rw [List.getElem?_set_self hv] at h; cases h; exact absurd rfl hs
      · rw [List.getElem?_eq_none (by simpa using hv)] at h; cases h
    · rw [List.getElem?_set_ne hi] at h
      obtain ⟨h1, h2⟩ := wipeE_get hs h
      exact ⟨h1, by simp only [List.mem_cons, not_or]; exact ⟨fun e => hi e.symm, h2⟩⟩
theorem EnvOk.wipe {G H : Hp} {σ : St} {ρ : Env} (x : EnvOk G H σ ρ) (vs : List Nat) : EnvOk G H (L2.wipe σ vs) (wipeE ρ vs) := by
  refine ⟨x.gh, by rw [wipe_length, wipeE_len]; exact x.len, fun i d h => ?_, fun i ds h => ?_, fun i j ds es p h1 h2 h3 h4 => ?_⟩
  · obtain ⟨h1, h2⟩ := wipeE_get (fun z => by cases z) h
    rw [wipe_out h2]
    exact x.pu i d h1
  · obtain ⟨h1, h2⟩ := wipeE_get (fun z => by cases z) h
    rw [wipe_out h2]
    exact x.ow i ds h1
  · obtain ⟨a1, a2⟩ := wipeE_get (fun z => by cases z) h1
    obtain ⟨b1, b2⟩ := wipeE_get (fun z => by cases z) h2
    rw [wipe_out a2] at h3
    rw [wipe_out b2] at h4
    exact x.inj i j ds es p a1 b1 h3 h4
/-! Trees: what the emitted derivations name. -/
namespace L2.Tr
open PySem PySem.Spec PyProof.Rows
/-- the names of what is built in stand for it -/
structure TxB (mg : Str → Option Value) : Prop where
  z_len : mg "len" = none
  z_list : mg "list" = none
  z_tuple : mg "tuple" = none
  z_zip : mg "zip" = none
  z_enumerate : mg "enumerate" = none
  z_range : mg "range" = none
  z_any : mg "any" = none
  z_all : mg "all" = none
  z_isinstance : mg "isinstance" = none
  z_int : mg "int" = none
  z_str : mg "str" = none
  z_bool : mg "bool" = none
  z_dict : mg "dict" = none
  z_sum : mg "sum" = none
  z_set : mg "set" = none
section
variable {X : Cx} {e e2 tg a b c : Expr} {es : List Expr} {t t' ta tb tc te : TE} {φ φ' φa φb φc : Env → Option D} {ψ : Env → Option (List D)} {g : TG} {θ : D → Env → Option Env} {pos : Pos} {tu : TS} {Φ : Env → Option Out} {χ : Env → Option Bool} {tt : TT} {wi : TI}
def orE {β : Type} (φ φ' : Env → Option β) : Env → Option β := fun ρ => (φ ρ).or (φ' ρ)
/-- read in one of two ways -/
theorem PuD.or (h : PuD X e t φ) (h' : PuD X e t' φ') : PuD X e (fun σ H Q => t σ H Q ∨ t' σ H Q) (orE φ φ') := ⟨⟨fun pins s σ H Q I w => w.elim (h.pe.run pins s σ H Q I) (h'.pe.run pins s σ H Q I)⟩, fun ρ d ee G H σ x Q k => by
  have ee : (φ ρ).or (φ' ρ) = some d := ee
  cases e1 : φ ρ with
  | some w =>
    rw [e1] at ee
    cases ee
    exact .inl (h.ev ρ _ e1 G H σ x Q k)
  | none =>
    rw [e1] at ee
    exact .inr (h'.ev ρ _ ee G H σ x Q k)⟩
theorem sd_nm {i : Nat} {x : Str} {pos' : Pos} (h : PuD X e t φ) (k : PE X e t → PS X (.Assign [.Name x pos'] e pos) (tAsg t (gName i))) : StD X (.Assign [.Name x pos'] e pos) (tAsg t (gName i)) (asgF φ (setF i)) := sd_set h (k h.pe)
theorem sd_nmO {i : Nat} {x : Str} {pos' : Pos} (h : OwD X e t ψ) (k : PE X e t → PS X (.Assign [.Name x pos'] e pos) (tAsg t (gName i))) : StD X (.Assign [.Name x pos'] e pos) (tAsg t (gName i)) (asgO i ψ) := sd_setO h (k h.pe)
theorem sd_appK {i : Nat} {o : Expr} {apos cpos : Pos} (h : PuD X e t φ) (hp : PE X e t → PS X (.Expr (.Call (.Attribute o "append" apos) [e] [] cpos) pos) (tDrop (tBM X.K "list" rAppend (tVar i) (tCons t tNil)))) :
    StD X (.Expr (.Call (.Attribute o "append" apos) [e] [] cpos) pos) (tDrop (tBM X.K "list" rAppend (tVar i) (tCons t tNil))) (growF i φ fun xs d => xs ++ [d]) := sd_app h (hp h.pe)
theorem sd_extK {i : Nat} {o : Expr} {apos cpos : Pos} (h : PuD X e t φ) (hp : PE X e t → PS X (.Expr (.Call (.Attribute o "extend" apos) [e] [] cpos) pos) (tDrop (tBM X.K "list" rExtend (tVar i) (tCons t tNil)))) :
    StD X (.Expr (.Call (.Attribute o "extend" apos) [e] [] cpos) pos) (tDrop (tBM X.K "list" rExtend (tVar i) (tCons t tNil))) (growF i (extArg φ) fun xs ds => xs ++ ds) := sd_ext h (hp h.pe)
theorem mono_tup {K : PySem.W.Frag} {n : Nat} {gs : TGs} (h : ∀ us σ H (Q Q' : St → Hp → Prop), (∀ σ' H', Q σ' H' → Q' σ' H') → gs us σ H Q → gs us σ H Q') : ∀ v σ H (Q Q' : St → Hp → Prop), (∀ σ' H', Q σ' H' → Q' σ' H') → gTup K n gs v σ H Q → gTup K n gs v σ H Q' :=
  fun v σ H Q Q' k ⟨a, xs, e1, e2, e3, q⟩ => ⟨a, xs, e1, e2, e3, h xs σ H Q Q' k q⟩
theorem mono_nil : ∀ us σ H (Q Q' : St → Hp → Prop), (∀ σ' H', Q σ' H' → Q' σ' H') → gNil us σ H Q → gNil us σ H Q' := fun us σ H Q Q' k q => ⟨q.1, k _ _ q.2⟩
theorem mono_cons {g : TG} {gs : TGs} (h1 : ∀ v σ H (Q Q' : St → Hp → Prop), (∀ σ' H', Q σ' H' → Q' σ' H') → g v σ H Q → g v σ H Q') (h : ∀ us σ H (Q Q' : St → Hp → Prop), (∀ σ' H', Q σ' H' → Q' σ' H') → gs us σ H Q → gs us σ H Q') :
    ∀ us σ H (Q Q' : St → Hp → Prop), (∀ σ' H', Q σ' H' → Q' σ' H') → gCons g gs us σ H Q → gCons g gs us σ H Q' := fun us σ H Q Q' k ⟨v, r, e, q⟩ => ⟨v, r, e, h1 v σ H _ _ (fun σ' H' q' => h r σ' H' Q Q' k q') q⟩
/-! a chain of two comparisons -/
def chainF (o o' : D → D → Option D) (φa φb φc : Env → Option D) : Env → Option D := fun ρ => (φa ρ).bind fun x => (φb ρ).bind fun y => ((o x y).bind asB).bind fun k => if k = true then (φc ρ).bind fun z => o' y z else some (bD false)
theorem chain_ev {r r' : R2} {o o' : D → D → Option D} (hd : R2D r o) (hd' : R2D r' o') (ha : ViS ta φa) (hb : ViS tb φb) (hc : ViS tc φc) : PuS (tChain r r' ta tb tc) (chainF o o' φa φb φc) := fun ρ d ee G H σ x Q k => by
  obtain ⟨d1, e1, ee⟩ := Option.bind_eq_some_iff.mp ee
  obtain ⟨d2, e2, ee⟩ := Option.bind_eq_some_iff.mp ee
  obtain ⟨kk, e3, ee⟩ := Option.bind_eq_some_iff.mp ee
  obtain ⟨d3, e4, e5⟩ := Option.bind_eq_some_iff.mp e3
  refine ha ρ d1 e1 G H σ x _ fun v1 G1 H1 f1 r1 => ?_
  refine hb ρ d2 e2 G1 H1 σ (x.mono f1) _ fun v2 G2 H2 f2 r2 => ?_
  refine hd d1 d2 d3 e4 G2 H2 v1 v2 f2.gh (r1.mono f2) r2 _ fun v3 G3 H3 f3 r3 => ?_
  unfold asB at e5
  split at e5
  · cases e5
    obtain ⟨rfl, _⟩ := r3.un_lf
    refine ⟨kk, rfl, ?_⟩
    have f := f1.trans (f2.trans f3)
    cases kk with
    | true =>
      obtain ⟨d4, e6, e7⟩ := Option.bind_eq_some_iff.mp ee
      refine hc ρ d4 e6 G3 H3 σ (x.mono f) _ fun v4 G4 H4 f4 r4 => ?_
      exact hd' d2 d4 d e7 G4 H4 v2 v4 f4.gh (r2.mono (f3.trans f4)) r4 Q fun v G5 H5 f5 r5 => k v G5 H5 (f.trans (f4.trans f5)) r5
    | false =>
      cases ee
      exact k _ G3 H3 f (.lf rfl)
  · cases e5
theorem te_chain {op op' : CmpOp} {r r' : R2} {o o' : D → D → Option D} (ho : OpR X (compareOp op) r) (ho' : OpR X (compareOp op') r') (hd : R2D r o) (hd' : R2D r' o') (ha : ViD X a ta φa) (hb : ViD X b tb φb) (hc : ViD X c tc φc)
    (hm : lastMarks [op, op'] [b, c] = false := by with_unfolding_all rfl) : TeD X (.Compare a [op, op'] [b, c] pos) (tTest (tChain r r' ta tb tc)) (asBF (chainF o o' φa φb φc)) := ⟨pt_chain ho ho' ha.pe hb.pe hc.pe hm, te_test (chain_ev hd hd' ha.ev hb.ev hc.ev)⟩
/-! is, of truths -/
def isB : D → D → Option D
  | .leaf (.bl a), .leaf (.bl b) => some (bD (decide (a = b)))
  | _, _ => none
theorem r2_isB : R2D rIsB isB := fun d1 d2 z e G H v1 v2 x r1 r2 Q k => by
  unfold isB at e
  split at e
  · cases e
    obtain ⟨rfl, _⟩ := r1.lf
    obtain ⟨rfl, _⟩ := r2.lf
    exact ⟨_, _, rfl, rfl, k _ G H (.refl x) (.lf rfl)⟩
  · cases e
/-! names for what is put together -/
abbrev mapS (ψ : Env → Option (List D)) : Env → Option D := fun ρ => (ψ ρ).map (D.seq true)
abbrev tupDisp (ψ : Env → Option (List D)) : Env → Option D := fun ρ => (ψ ρ).bind fun ds => if ds.length ≤ Lim then some (.seq false ds) else none
abbrev lstDisp (ψ : Env → Option (List D)) : Env → Option (List D) := fun ρ => (ψ ρ).bind fun ds => if ds.length ≤ Lim then some ds else none
abbrev partF (φ : Env → Option D) : Env → Option (Option Int) := fun ρ => ((φ ρ).bind asI).map some
abbrev enumF (φ : Env → Option D) : Env → Option (List D) := fun ρ => (seqsF φ ρ).map (enumL 0)
abbrev skipF : Env → Option Out := fun ρ => some (.nx ρ)
abbrev isF (q : D → Option Bool) (φ : Env → Option D) : Env → Option D := fun ρ => ((φ ρ).bind q).map bD
abbrev lenA : List D → Option D := fun x => (lenD x).or (lenK x)
abbrev lstA : List D → Option (List D) := fun x => (lstO x).or (lstK x)
def negF (φ : Env → Option D) : Env → Option D := fun ρ => ((φ ρ).bind asI).map fun i => .leaf (.int (-i))
theorem pu_neg (h : PuD X a ta φa) : PuD X (.UnaryOp .USub a pos) (tUn (rU fun i => .int (-i)) ta) (negF φa) := ⟨pe_un un_neg h.pe, fun ρ d ee G H σ x Q k => by
  obtain ⟨i, e1, rfl⟩ := Option.map_eq_some_iff.mp ee
  obtain ⟨d1, e2, e3⟩ := Option.bind_eq_some_iff.mp e1
  refine h.ev ρ d1 e2 G H σ x _ fun v G1 H1 f1 r1 => ?_
  unfold asI at e3
  split at e3
  · cases e3
    obtain ⟨rfl, _⟩ := r1.un_lf
    exact ⟨i, rfl, k _ G1 H1 f1 (.lf rfl)⟩
  · cases e3⟩
/-! a, b = x, y -/
def parPP (i j : Nat) (φ φ' : Env → Option D) : Env → Option Out := fun ρ => (φ ρ).bind fun d => (φ' ρ).map fun d' => .nx ((ρ.set i (Sl.pu d)).set j (Sl.pu d'))
def parPO (i j : Nat) (φ : Env → Option D) (ψ : Env → Option (List D)) : Env → Option Out := fun ρ => (φ ρ).bind fun d => (ψ ρ).map fun ds => .nx ((ρ.set i (Sl.pu d)).set j (Sl.ow (.seq true ds)))
abbrev par_pp := parPP
abbrev par_po := parPO
theorem sd_par_pp {i j : Nat} {t1 t2 : TE} (h1 : PuD X a t1 φ) (h2 : PuD X b t2 φ') (hst : i ≠ j) {st : Stmt} (hp : PA X [a, b] (tCons t1 (tCons t2 tNil)) → PS X st (tPar i j (tCons t1 (tCons t2 tNil))))
    (hs1 : starEach [b] X.env = (false, eval b X.env) :: starEach [] X.env := by rfl) (hs : starEach [a, b] X.env = (false, eval a X.env) :: starEach [b] X.env := by rfl) : StD X st (tPar i j (tCons t1 (tCons t2 tNil))) (parPP i j φ φ') := ⟨hp (pa_cons h1.pe (pa_cons h2.pe pa_nil hs1) hs), fun ρ o ee G H σ x De k => by
  obtain ⟨d, e1, ee⟩ := Option.bind_eq_some_iff.mp ee
  obtain ⟨d', e2, rfl⟩ := Option.map_eq_some_iff.mp ee
  refine h1.ev ρ d e1 G H σ x _ fun v G1 H1 f1 r1 => ?_
  refine h2.ev ρ d' e2 G1 H1 σ (x.mono f1) _ fun v2 G2 H2 f2 r2 => ⟨v, v2, rfl, ?_⟩
  have x2 := (x.mono f1).mono f2
  have y := (x2.setP (r1.mono f2.g) i)
  refine k _ G2 H2 (y.setP r2 j) ((FrS.of (f1.trans f2)).trans (FrS.sub (fun c z => own_setP x.len (own_setP y.len z)) ((obk_set fun _ _ _ z => by cases z).trans (obk_set fun _ _ _ z => by cases z))))⟩
theorem sd_par_po {i j : Nat} {t1 t2 : TE} (h1 : PuD X a t1 φ) (h2 : OwD X b t2 ψ) (hst : i ≠ j) {st : Stmt} (hp : PA X [a, b] (tCons t1 (tCons t2 tNil)) → PS X st (tPar i j (tCons t1 (tCons t2 tNil))))
    (hs1 : starEach [b] X.env = (false, eval b X.env) :: starEach [] X.env := by rfl) (hs : starEach [a, b] X.env = (false, eval a X.env) :: starEach [b] X.env := by rfl) : StD X st (tPar i j (tCons t1 (tCons t2 tNil))) (parPO i j φ ψ) := ⟨hp (pa_cons h1.pe (pa_cons h2.pe pa_nil hs1) hs), fun ρ o ee G H σ x De k => by
  obtain ⟨d, e1, ee⟩ := Option.bind_eq_some_iff.mp ee
  obtain ⟨ds, e2, rfl⟩ := Option.map_eq_some_iff.mp ee
  refine h1.ev ρ d e1 G H σ x _ fun v G1 H1 f1 r1 => ?_
  have x1 := x.mono f1
  refine h2.ev ρ ds e2 G1 H1 σ x1 _ fun p us G2 H2 f2 n1 n2 hp hl r2 => ⟨v, _, rfl, ?_⟩
  have x2 := x1.mono f2
  have y := (x2.setP (r1.mono f2.g) i)
  refine k _ G2 H2 (y.setO j n2 hp ⟨us, rfl, hl, r2⟩ fun l es _ z1 z2 => own_free x1 n1 (own_setP x.len ⟨l, es, z1, z2⟩)) ⟨f1.g.trans f2.g, fun c o h _ => f2.h _ _ (f1.h _ _ h), fun c z1 z2 _ => (f1.trans f2).nw c z1 z2, fun c z => ?_, (obk_set fun _ _ _ z => by cases z).trans (obk_set fun _ _ _ z => by cases z)⟩
  rcases own_setO y.len z with q | q
  · exact .inl (own_setP x.len q)
  · rw [q]; exact .inr (f1.ne n1)⟩
/-! x = y, y an own list, which is one no more -/
def moveF (i j : Nat) : Env → Option Out := fun ρ => match ρ[j]? with
  | some (.ow ds) => some (.nx ((ρ.set j (Sl.pu ds)).set i (Sl.pu ds)))
  | _ => none
theorem sd_move {i j : Nat} {x y : Str} {pos' py : Pos} (h : PE X (.Name y py) (tVar j)) (hp : PE X (.Name y py) (tVar j) → PS X (.Assign [.Name x pos'] (.Name y py) pos) (tAsg (tVar j) (gName i))) : StD X (.Assign [.Name x pos'] (.Name y py) pos) (tAsg (tVar j) (gName i)) (moveF i j) := ⟨hp h, fun ρ o ee G H σ x De k => by
  unfold moveF at ee
  split at ee
  · rename_i ds h1
    cases ee
    obtain ⟨p, ob, h2, h3, h4, h5⟩ := x.ow j ds h1
    refine ⟨_, h2, ?_⟩
    have hj : j < ρ.length := (List.getElem?_eq_some_iff.mp h1).1
    have g2 : Ex (upd G p ob) H := fun a o z => by
      by_cases q : a = p
      · rw [q, upd_same] at z; rw [q]; cases z; exact h4
      · rw [upd_ne q] at z; exact x.gh _ _ z
    have rp : Rep (upd G p ob) ds (.ref p) := h5.rep (Ex.new h3) upd_same
    have oth : ∀ {l : Nat} {s : Sl}, j ≠ l → (ρ.set j (Sl.pu ds))[l]? = some s → ρ[l]? = some s := fun {l s} n e => by rwa [List.getElem?_set_ne n] at e
    have ne : ∀ {l : Nat} {es : D}, (ρ.set j (Sl.pu ds))[l]? = some (Sl.ow es) → j ≠ l := fun {l es} h e => by
      subst e
      rw [List.getElem?_set_self hj] at h
      cases h
    have x2 : EnvOk (upd G p ob) H σ (ρ.set j (Sl.pu ds)) := by
      refine ⟨g2, by rw [List.length_set]; exact x.len, fun l e h => ?_, fun l es h => ?_, fun l m es fs q a1 a2 a3 a4 => x.inj l m es fs q (oth (ne a1) a1) (oth (ne a2) a2) a3 a4⟩
      · by_cases n : j = l
        · subst n
          rw [List.getElem?_set_self hj] at h
          cases h
          exact ⟨_, h2, rp⟩
        · obtain ⟨v, b1, b2⟩ := x.pu l e (oth n h)
          exact ⟨v, b1, b2.mono (Ex.new h3)⟩
      · obtain ⟨q, o2, b1, b2, b3, b4⟩ := x.ow l es (oth (ne h) h)
        have : q ≠ p := fun e => ne h (x.inj j l ds es p h1 (oth (ne h) h) h2 (e ▸ b1))
        exact ⟨q, o2, b1, by rw [upd_ne this]; exact b2, b3, b4.mono (Ex.new h3)⟩
    have own : Own σ ρ p := ⟨j, ds, h1, h2⟩
    refine k _ _ H (x2.setP rp i) ⟨Ex.new h3, fun a o z _ => z, fun a z1 z2 z3 => ?_, fun a z => ?_, ObK.trans (obk_same fun _ _ _ z => by cases z) (obk_set fun _ _ _ z => by cases z)⟩
    · have : a ≠ p := fun q => z3 (q ▸ own)
      rw [upd_ne this]; exact z2
    · obtain ⟨l, es, b1, b2⟩ := own_setP x2.len z
      exact .inl ⟨l, es, oth (ne b1) b1, b2⟩
  · cases ee⟩
theorem pu_dnew : PuD X (.Dict [] [] pos) tDNewK (kD (.dct [] [])) := ⟨pe_dnewK, fun ρ d ee G H σ x Q k => by
  cases ee
  exact fun p np => k _ _ _ (.new x.gh np) (.dc (us := []) upd_same rfl (by decide) .nil)⟩
/-! reversed slices -/
def revO (φ : Env → Option D) : Env → Option (List D) := fun ρ => (φ ρ).bind fun d => match d with
  | .seq true ds => some ds.reverse
  | _ => none
theorem ow_rev {k : Nat} {p1 p2 p3 : Pos} (h : ViD X a ta φa) : OwD X (.Subscript a (.Slice none none (some (.UnaryOp .USub (.Constant (.int 1) k p1) p2)) p3) pos) (tRevL X.K ta) (revO φa) := ⟨pe_revL h.pe, fun ρ z ee G H σ x Q kk => by
  obtain ⟨d, e1, e2⟩ := Option.bind_eq_some_iff.mp ee
  refine h.ev ρ d e1 G H σ x _ fun v G1 H1 f1 r1 => ?_
  split at e2
  · cases e2
    obtain ⟨p, us, rfl, h1, l1, q1⟩ := r1.seq f1.gh
    exact ⟨p, us, rfl, SqL.of h1, fun q nq => kk q us.reverse G1 _ (f1.trans (.tmp f1.gh nq)) (f1.ne nq) (f1.gh.back nq) upd_same (by rw [List.length_reverse]; exact l1) q1.rev⟩
  · cases e2⟩
end
end L2.Tr

/-! Trees: instances: fields, methods, __init__; dicts that are filled. -/
namespace L2.Tr
open PySem PySem.Spec PyProof.Rows
section
variable {X : Cx} {e e2 o tg a b c : Expr} {es : List Expr} {t t' ta tb tc te : TE} {φ φ' φa φb φc : Env → Option D} {ψ : Env → Option (List D)} {pos : Pos} {Φ : Env → Option Out}
/-! ### fields -/
def getS : List Str → List D → Str → Option D
  | n :: ns, d :: ds, f => if (f == n) = true then some d else getS ns ds f
  | _, _, _ => none
theorem getS_rep {H : Hp} {f : Str} {d : D} : ∀ {ns : List Str} {ds : List D} {us : List V}, Reps H ds us → getS ns ds f = some d → ∃ u, (ns.zip us).lookup f = some u ∧ Rep H d u
  | [], ds, us, h, e => by simp [getS] at e
  | k :: ks, [], us, h, e => by simp [getS] at e
  | k :: ks, d0 :: ds, us, h, e => by
    obtain ⟨u, r, rfl, q, t⟩ := h.un
    rw [getS] at e
    rw [List.zip_cons_cons, List.lookup_cons]
    split at e
    · rename_i hk
      cases e
      rw [hk]
      exact ⟨u, rfl, q⟩
    · rename_i hk
      have hk' : (f == k) = false := by simpa using hk
      rw [hk']
      exact getS_rep t e
def fldD (C0 : Addr) (f : Str) : D → Option D
  | .obj C ns ds => if C = C0 then getS ns ds f else none
  | _ => none
def fldF (C0 : Addr) (f : Str) (φ : Env → Option D) : Env → Option D := fun ρ => (φ ρ).bind (fldD C0 f)
theorem pu_fld {C0 : Addr} {f : Str} (cl : Cls X.K C0) (n : NoAttr X.K C0 f) (h : ViD X e t φ) (hb : attributeBase e f X.env (eval e X.env) = eval e X.env := by rfl) : PuD X (.Attribute e f pos) (tFld X.K t f) (fldF C0 f φ) := ⟨pe_fld h.pe hb, fun ρ d ee G H σ x Q k => by
  obtain ⟨d1, e1, e2⟩ := Option.bind_eq_some_iff.mp ee
  refine h.ev ρ d1 e1 G H σ x _ fun v G1 H1 f1 r1 => ?_
  unfold fldD at e2
  split at e2
  · split at e2
    · rename_i hC
      subst hC
      obtain ⟨p, dx, us, rfl, h1, h2, h3⟩ := r1.obj f1.gh
      obtain ⟨u, h4, h5⟩ := getS_rep h3 e2
      exact ⟨p, _, dx, _, u, rfl, h1, cl, n, h4, k u G1 H1 f1 h5⟩
    · cases e2
  · cases e2⟩
/-! Trees: __init__, own dicts, own things that are handed on. -/
namespace L2.Tr
open PySem PySem.Spec PyProof.Rows
section
variable {X : Cx} {e e2 o tg a b c : Expr} {es : List Expr} {t t' ta tb tc te : TE} {φ φ' φa φb φc : Env → Option D} {ψ : Env → Option (List D)} {pos : Pos} {Φ : Env → Option Out} {st : Stmt} {ts : TS}
theorem EnvOk.consO {G H : Hp} {σ : St} {ρ : Env} (x : EnvOk G H σ ρ) (no : ∀ (i : Nat) (d : D), ρ[i]? = some (Sl.ow d) → False) {p : Addr} {d : D} {ob : HO} (n : G p = none) (hp : H p = some ob) (r : Top G d ob) : EnvOk G H (some (.ref p) :: σ) (Sl.ow d :: ρ) := by
  refine ⟨x.gh, by rw [List.length_cons, List.length_cons, x.len], fun i e h => ?_, fun i e h => ?_, fun i j e f q h1 h2 h3 h4 => ?_⟩
  · cases i with
    | zero => cases h
    | succ i => exact x.pu i e (by simpa using h)
  · cases i with
    | zero => cases h; exact ⟨p, ob, rfl, n, hp, r⟩
    | succ i => exact (no i e (by simpa using h)).elim
  · cases i with
    | zero =>
      cases j with
      | zero => rfl
      | succ j => exact (no j f (by simpa using h2)).elim
    | succ i => exact (no i e (by simpa using h1)).elim
theorem ok_init {P : Program} {w : World} {K : PySem.W.Frag} {mg : Str → Option Value} {base : Heap} {x qual : Str} {params : Arguments} {body : List Stmt} {scope : Scope} {dvs : List V} {kws : List (Str × V)} {f : Addr} {fd : FuncData} {n0 : Str} {N ps : List Str} {k : Nat} {C : Addr} {Φ : Env → Option Out}
    (F : FunD K x qual params body scope dvs kws f fd) (S : FnScope (n0 :: N) ps scope)
    (hb : ∀ (cdv : Value) (A : Around) (outer : List PySem.Env) (s : Shared) (H : Hp) (E : XK), Room k (A.deeper (envOfC qual scope s.heap.objs.size f cdv)) → ∃ t, SsD (cxOf CX0 P w K mg base (n0 :: N) qual scope f cdv A outer s H E).nox body t Φ) :
    FnOk P w K mg base CX0 (k + 1) f fd ps (spI C fun ds => if ds.length + 1 = ps.length then initF (n0 :: N).length C Φ ds else none) := by
  refine F.ok S (fun vs H Q E h => ?_) (fun cdv A outer s H vs Q E hr h => ?_)
  · obtain ⟨G, ds, p, dx, us, ns, es, rfl, _, _, _, r, e, _⟩ := h
    have e : (if ds.length + 1 = ps.length then initF (n0 :: N).length C Φ ds else none) = some (ns, es) := e
    split at e
    · rename_i hl; rw [List.length_cons, r.len, hl]
    · cases e
  · obtain ⟨G, ds, p, dx, us, ns, es, rfl, np, hp, x, r, e, q⟩ := h
    have e : (if ds.length + 1 = ps.length then initF (n0 :: N).length C Φ ds else none) = some (ns, es) := e
    obtain ⟨t, b⟩ := hb cdv A outer s H E hr
    refine ⟨t, b.ps.nox, ?_⟩
    split at e
    · obtain ⟨o, e1, e2⟩ := Option.bind_eq_some_iff.mp e
      have x0 : EnvOk G H (start (n0 :: N) (.ref p :: us)) (envI (n0 :: N).length C ds) := by
        have h0 := (env0_ok x (N := N) r).consO (fun i d h => env0_own h) (d := .obj C [] []) np hp ⟨dx, [], rfl, rfl, .nil⟩
        have e3 : start (n0 :: N) (.ref p :: us) = some (.ref p) :: start N us := by
          unfold start
          rw [List.length_cons, List.length_cons, Nat.add_sub_add_right]
          rfl
        rw [e3]
        exact h0
      have own1 : ∀ a, Own (start (n0 :: N) (.ref p :: us)) (envI (n0 :: N).length C ds) a → a = p := fun a ⟨i, d, h1, h2⟩ => by
        cases i with
        | zero =>
          have : some (some (V.ref p)) = some (some (V.ref a)) := h2
          cases this
          rfl
        | succ i => exact (env0_own (show (env0 N.length ds)[i]? = some (Sl.ow d) from by simpa [envI] using h1)).elim
      refine b.ev _ o e1 G H _ x0 _ ?_
      cases o with
      | nx ρ2 =>
        dsimp only at e2
        split at e2
        · rename_i C' ns' es' h1
          split at e2
          · rename_i hC
            subst hC
            cases e2
            intro σ2 G2 H2 x2 f2
            obtain ⟨p2, ob, g1, g2, g3, dx2, ws, rfl, g4, g5⟩ := x2.ow 0 _ h1
            have hp2 : p2 = p := by
              have h0 := (f2.ob 0 _ _ _ h1).1
              rw [g1] at h0
              have h1 : some (some (V.ref p2)) = some (some (V.ref p)) := h0
              cases h1
              rfl
            subst hp2
            exact q G2 H2 dx2 ws f2.g x2.gh (fun a o h n => f2.h a o h fun z => n (own1 a z)) (fun a h1 h2 n => f2.nw a h1 h2 fun z => n (own1 a z)) g2 g3 g4 g5
          · cases e2
        · cases e2
      | rt d => cases e2
      | bk ρ2 => cases e2
      | ct ρ2 => cases e2
    · cases e
/-! ### an own thing is one no more -/
def frzE (j : Nat) (ρ : Env) : Option Env := match ρ[j]? with
  | some (.ow d) => some (ρ.set j (Sl.pu d))
  | _ => none
theorem frz_ok {G H : Hp} {σ : St} {ρ ρ2 : Env} {j : Nat} (x : EnvOk G H σ ρ) (h : frzE j ρ = some ρ2) : ∃ G2, EnvOk G2 H σ ρ2 ∧ FrS σ ρ G H σ ρ2 G2 H := by
  unfold frzE at h
  split at h
  · rename_i ds h1
    cases h
    obtain ⟨p, ob, h2, h3, h4, h5⟩ := x.ow j ds h1
    have hj : j < ρ.length := (List.getElem?_eq_some_iff.mp h1).1
    have g2 : Ex (upd G p ob) H := fun a o z => by
      by_cases q : a = p
      · rw [q, upd_same] at z; rw [q]; cases z; exact h4
      · rw [upd_ne q] at z; exact x.gh _ _ z
    have rp : Rep (upd G p ob) ds (.ref p) := h5.rep (Ex.new h3) upd_same
    have oth : ∀ {l : Nat} {s : Sl}, j ≠ l → (ρ.set j (Sl.pu ds))[l]? = some s → ρ[l]? = some s := fun {l s} n e => by rwa [List.getElem?_set_ne n] at e
    have ne : ∀ {l : Nat} {es : D}, (ρ.set j (Sl.pu ds))[l]? = some (Sl.ow es) → j ≠ l := fun {l es} h e => by
      subst e
      rw [List.getElem?_set_self hj] at h
      cases h
    have x2 : EnvOk (upd G p ob) H σ (ρ.set j (Sl.pu ds)) := by
      refine ⟨g2, by rw [List.length_set]; exact x.len, fun l e h => ?_, fun l es h => ?_, fun l m es fs q a1 a2 a3 a4 => x.inj l m es fs q (oth (ne a1) a1) (oth (ne a2) a2) a3 a4⟩
      · by_cases n : j = l
        · subst n
          rw [List.getElem?_set_self hj] at h
          cases h
          exact ⟨_, h2, rp⟩
        · obtain ⟨v, b1, b2⟩ := x.pu l e (oth n h)
          exact ⟨v, b1, b2.mono (Ex.new h3)⟩
      · obtain ⟨q, o2, b1, b2, b3, b4⟩ := x.ow l es (oth (ne h) h)
        have : q ≠ p := fun e => ne h (x.inj j l ds es p h1 (oth (ne h) h) h2 (e ▸ b1))
        exact ⟨q, o2, b1, by rw [upd_ne this]; exact b2, b3, b4.mono (Ex.new h3)⟩
    have own : Own σ ρ p := ⟨j, ds, h1, h2⟩
    refine ⟨_, x2, Ex.new h3, fun a o z _ => z, fun a z1 z2 z3 => ?_, fun a z => ?_, obk_same fun _ _ _ z => by cases z⟩
    · have : a ≠ p := fun q => z3 (q ▸ own)
      rw [upd_ne this]; exact z2
    · obtain ⟨l, es, b1, b2⟩ := z
      exact .inl ⟨l, es, oth (ne b1) b1, b2⟩
  · cases h
def frzF (j : Nat) (Φ : Env → Option Out) : Env → Option Out := fun ρ => (frzE j ρ).bind Φ
theorem sd_frz (j : Nat) (h : StD X st ts Φ) : StD X st ts (frzF j Φ) := ⟨h.ps, fun ρ o ee G H σ x De k => by
  obtain ⟨ρ2, e1, e2⟩ := Option.bind_eq_some_iff.mp ee
  obtain ⟨G2, x2, f2⟩ := frz_ok x e1
  refine h.ev ρ2 o e2 G2 H σ x2 De ?_
  cases o with
  | nx ρ3 => exact fun σ3 G3 H3 x3 f3 => k σ3 G3 H3 x3 (f2.trans f3)
  | bk ρ3 => exact fun σ3 G3 H3 x3 f3 => k σ3 G3 H3 x3 (f2.trans f3)
  | ct ρ3 => exact fun σ3 G3 H3 x3 f3 => k σ3 G3 H3 x3 (f2.trans f3)
  | rt d => exact fun v G3 H3 f3 r3 => k v G3 H3 (f2.transR f3) r3⟩
/-! ### own dicts -/
def dnewF (i : Nat) : Env → Option Out := fun ρ => some (.nx (ρ.set i (Sl.ow (.dct [] []))))
theorem sd_dnew {i : Nat} {x : Str} {pos' pos2 : Pos} (hp : PE X (.Dict [] [] pos2) tDNewK → PS X (.Assign [.Name x pos'] (.Dict [] [] pos2) pos) (tAsg tDNewK (gName i))) : StD X (.Assign [.Name x pos'] (.Dict [] [] pos2) pos) (tAsg tDNewK (gName i)) (dnewF i) := ⟨hp pe_dnewK, fun ρ o ee G H σ x De k => by
  cases ee
  intro p np
  have f1 : Fr G H G (upd H p (.dK [])) := .tmp x.gh np
  refine k _ G _ ((x.mono f1).setO i (x.gh.back np) upd_same ⟨[], rfl, rfl, by decide, .nil⟩ fun j es _ h1 h2 => own_free x np ⟨j, es, h1, h2⟩) ⟨f1.g, fun a o h _ => f1.h a o h, fun a h1 h2 _ => f1.nw a h1 h2, fun a z => ?_, obk_set fun _ _ _ z => by cases z⟩
  rcases own_setO x.len z with q | q
  · exact .inl q
  · rw [q]; exact .inr np⟩
def memK (k : Key) (ks : List Key) : Bool := ks.any fun x => decide (x = k)
theorem memK_iff {k : Key} {ks : List Key} : memK k ks = true ↔ k ∈ ks := by
  unfold memK
  rw [List.any_eq_true]
  exact ⟨fun ⟨x, h1, h2⟩ => (of_decide_eq_true h2) ▸ h1, fun h => ⟨k, h, decide_eq_true rfl⟩⟩
/-- d[k] = v, k new -/
def dputF (i : Nat) (φk φv : Env → Option D) : Env → Option Out := fun ρ => match ρ[i]? with
  | some (.ow (.dct ks ds)) => (φv ρ).bind fun d => ((φk ρ).bind keyD).bind fun k => if memK k ks = false ∧ ds.length < 1000 then some (.nx (ρ.set i (Sl.ow (.dct (ks ++ [k]) (ds ++ [d]))))) else none
  | _ => none
theorem putK_zip {k : Key} {v : V} {ks : List Key} {us : List V} (h : memK k ks = false) (hl : ks.length = us.length) : putK (ks.zip us) k v = (ks ++ [k]).zip (us ++ [v]) := by
  unfold putK
  rw [if_neg, List.zip_append hl]
  · rfl
  · intro z
    obtain ⟨p, hp, hk⟩ := List.any_eq_true.mp z
    exact (Bool.eq_false_iff.mp h) (memK_iff.mpr ((of_decide_eq_true hk) ▸ (List.of_mem_zip hp).1))
theorem sd_dput {i : Nat} {ik : Expr} {pos' : Pos} (hu : X.A.units + 1 < cLine) (ho : PE X o (tVar i)) (hk : PuD X ik ta φa) (hv : PuD X e t φ) (hs : swapsWith e (some (.Subscript o ik pos')) pos.line X.env = pure false := by rfl) :
    StD X (.Assign [.Subscript o ik pos'] e pos) (sDPut (tVar i) ta t) (dputF i φa φ) := ⟨ps_dput hu ho hk.pe hv.pe hs, fun ρ out ee G H σ x De k => by
  unfold dputF at ee
  split at ee
  · rename_i ks ds h1
    obtain ⟨d, e1, ee⟩ := Option.bind_eq_some_iff.mp ee
    obtain ⟨kk, e2, ee⟩ := Option.bind_eq_some_iff.mp ee
    obtain ⟨dk, e3, e4⟩ := Option.bind_eq_some_iff.mp e2
    split at ee
    · rename_i hl
      cases ee
      obtain ⟨p, ob, h2, h3, h4, us, rfl, h5, h6, h7⟩ := x.ow i _ h1
      refine hv.ev ρ d e1 G H σ x _ fun v G1 H1 f1 r1 => ⟨_, h2, ?_⟩
      refine hk.ev ρ dk e3 G1 H1 σ (x.mono f1) _ fun vk G2 H2 f2 r2 => ?_
      obtain rfl := keyD_kV (G := G2) (H := H2) e4 (.inl r2)
      have f := f1.trans f2
      have hlu : ks.length = us.length := by rw [h5, h7.len]
      refine ⟨p, _, rfl, DPut.k (f.h _ _ h4) ?_, ?_⟩
      · rw [List.length_zip, ← hlu, Nat.min_self, h5, sizeLine_eq]; omega
      · rw [putK_zip hl.1 hlu]
        have g := grow_ok (x.mono f) (fun _ _ _ z => by cases z) (ys := .dct (ks ++ [kk]) (ds ++ [d])) (ob := .dK ((ks ++ [kk]).zip (us ++ [v]))) h1 h2 ⟨_, rfl, by rw [List.length_append, List.length_append, h5]; rfl, by rw [List.length_append]; have : Lim = 5000 := rfl; have : [d].length = 1 := rfl; omega, (h7.mono f.g).app (.cons (r1.mono f2.g) .nil)⟩
        exact k σ G2 _ g.1 ((FrS.of f).trans g.2)
    · cases ee
  · cases ee⟩
/-- k in d -/
def dinB (neg : Bool) : D → D → Option Bool := fun y x => match x with
  | .dct ks _ => (keyD y).map fun k => xor neg (memK k ks)
  | .frz ks _ => (keyD y).map fun k => xor neg (memK k ks)
  | _ => none
theorem valV_mem {k : Key} : ∀ {ks : List Key} {us : List V}, ks.length = us.length → (valV (ks.zip us) k).isSome = memK k ks
  | [], [], _ => rfl
  | x :: ks, u :: us, h => by
    have ih := valV_mem (k := k) (ks := ks) (us := us) (by simpa using h)
    rw [List.zip_cons_cons]
    unfold memK at ih ⊢
    rw [List.any_cons]
    by_cases e : x = k
    · rw [valV_pos e, decide_eq_true e]; rfl
    · rw [valV_neg e, ih, decide_eq_false e]; rfl
  | [], _ :: _, h => by simp at h
  | _ :: _, [], h => by simp at h
theorem te_din (hu : X.A.units + 1 < cLine) (ha : ViD X a ta φa) (hb : ViD X b tb φb) (hm : behindInMarks .In b = false := by with_unfolding_all rfl) : TeD X (.Compare a [.In] [b] pos) (tB (tDIn ta tb)) (bin2 (dinB false) φa φb) := ⟨pt_cmp (pc_din hu ha.pe hb.pe) hm, fun ρ k0 ee G H σ x Q k => by
  obtain ⟨d1, d2, e1, e2, e3⟩ := bin2_un ee
  refine ha.ev ρ d1 e1 G H σ x _ fun v1 G1 H1 f1 r1 => ?_
  refine hb.ev ρ d2 e2 G1 H1 σ (x.mono f1) _ fun v2 G2 H2 f2 r2 => ?_
  unfold dinB at e3
  split at e3
  · rename_i ks ds
    obtain ⟨kk, h1, rfl⟩ := Option.map_eq_some_iff.mp e3
    obtain ⟨p, us, rfl, hp, hl, _, rs⟩ := r2.dct f2.gh
    obtain rfl := keyD_kV h1 (r1.mono f2)
    refine ⟨p, _, rfl, DGet.k hp, _, rfl, ?_⟩
    rw [valV_mem (by rw [hl, rs.len])]
    have := k G2 H2 (f1.trans f2)
    rwa [Bool.false_xor] at this
  · rename_i ks ds
    obtain ⟨kk, h1, rfl⟩ := Option.map_eq_some_iff.mp e3
    obtain ⟨p, us, o, rfl, hp, hl, _, rs⟩ := r2.frz.un_frz
    obtain rfl := keyD_kV h1 (r1.mono f2)
    refine ⟨p, _, rfl, .inl ⟨_, _, .inr ⟨o, f2.gh _ _ hp⟩, rfl, rfl⟩, _, rfl, ?_⟩
    rw [valV_mem (by rw [hl, rs.len])]
    have := k G2 H2 (f1.trans f2)
    rwa [Bool.false_xor] at this
  · cases e3⟩
theorem pu_din (hu : X.A.units + 1 < cLine) (ha : ViD X a ta φa) (hb : ViD X b tb φb) (hm : behindInMarks .In b = false := by with_unfolding_all rfl) : PuD X (.Compare a [.In] [b] pos) (tDIn ta tb) (fun ρ => (bin2 (dinB false) φa φb ρ).map bD) := ⟨pe_cmp (pc_din hu ha.pe hb.pe) hm, fun ρ k0 ee G H σ x Q k => by
  obtain ⟨kb, e0, rfl⟩ := Option.map_eq_some_iff.mp ee
  obtain ⟨d1, d2, e1, e2, e3⟩ := bin2_un e0
  refine ha.ev ρ d1 e1 G H σ x _ fun v1 G1 H1 f1 r1 => ?_
  refine hb.ev ρ d2 e2 G1 H1 σ (x.mono f1) _ fun v2 G2 H2 f2 r2 => ?_
  unfold dinB at e3
  split at e3
  · rename_i ks ds
    obtain ⟨kk, h1, rfl⟩ := Option.map_eq_some_iff.mp e3
    obtain ⟨p, us, rfl, hp, hl, _, rs⟩ := r2.dct f2.gh
    obtain rfl := keyD_kV h1 (r1.mono f2)
    refine ⟨p, _, rfl, DGet.k hp, ?_⟩
    rw [valV_mem (by rw [hl, rs.len])]
    have := k _ G2 H2 (f1.trans f2) (.lf rfl)
    rwa [Bool.false_xor] at this
  · rename_i ks ds
    obtain ⟨kk, h1, rfl⟩ := Option.map_eq_some_iff.mp e3
    obtain ⟨p, us, o, rfl, hp, hl, _, rs⟩ := r2.frz.un_frz
    obtain rfl := keyD_kV h1 (r1.mono f2)
    refine ⟨p, _, rfl, .inl ⟨_, _, .inr ⟨o, f2.gh _ _ hp⟩, rfl, rfl⟩, ?_⟩
    rw [valV_mem (by rw [hl, rs.len])]
    have := k _ G2 H2 (f1.trans f2) (.lf rfl)
    rwa [Bool.false_xor] at this
  · cases e3⟩
/-! ### in, by an own __contains__ -/
structure Con (P : Program) (w : World) (K : PySem.W.Frag) (mg : Str → Option Value) (base : Heap) (C : Addr) (k : Nat) (f : List D → Option D) : Prop where
  ex : ∃ (a : Addr) (fd : FuncData) (ps : List Str), L2.Vy.Own1 K C a "__contains__" ∧ FnOk P w K mg base CX0 k a fd ps (spP f) ∧ Binds K fd ps []
def conD (neg : Bool) (C0 : Addr) (f : List D → Option D) : D → D → Option D := fun x y => match y with
  | .obj C _ _ => if C = C0 then ((f [y, x]).bind asB).map fun b => bD (neg != b) else none
  | _ => none
theorem r2_con {neg : Bool} {C0 : Addr} {f : List D → Option D} : R2D (L2.Vy.rInO C0 (spP f) neg) (conD neg C0 f) := fun d1 d2 z e G H v1 v2 x r1 r2 Q k => by
  unfold conD at e
  split at e
  · rename_i C ns ds
    split at e
    · rename_i hC
      subst hC
      obtain ⟨b, e1, rfl⟩ := Option.map_eq_some_iff.mp e
      obtain ⟨db, e2, e3⟩ := Option.bind_eq_some_iff.mp e1
      obtain ⟨p, dx, us, rfl, h1, h2, h3⟩ := r2.obj x
      refine ⟨p, dx, _, rfl, h1, H, _, db, Ex.refl _, .cons (r2.rep x) (.cons (r1.rep x) .nil), e2, fun v G2 H2 f2 r => ?_⟩
      unfold asB at e3
      split at e3
      · cases e3
        obtain ⟨rfl, _⟩ := r.un_lf
        exact ⟨b, rfl, k _ G H2 (.of x (f2.g.trans f2.gh)) (.lf rfl)⟩
      · cases e3
    · cases e
  · cases e
end
end L2.Tr

/-! Trees: == and != by an own __eq__. -/
namespace OwC
open PySem PySem.Spec PyProof.Rows PySem.SeqAt PySem.W
section
variable {M : Model} {prog : Program} {w : World} {A : Around} {E : Value → Shared → Prop} {s : Shared} {K : PySem.W.Frag} {x C f : Addr} {ox : Obj} {od : Option Obj} {b tb : Value} {op : CmpOp}
theorem cmp_one {Q : Value → Shared → Prop} (hu : A.units < cLine) (X : K.In s.heap) (I : InstAt s.heap x ox C od) (hb : Looks (model prog w) s.heap (typeOf b) tb) (hn : notFirst K C tb = true)
    (one : wpAny (model prog w) A (tryCompare (.ref x) (cmpInfo op).2.1 b) (fun r s' => ∃ v, r = some v ∧ Q v s') E s) : wpAny (model prog w) A (richCompare op (.ref x) b) Q E s := by
  unfold richCompare
  simp only [oneThing_ref]
  refine wpAny_holding (wpAny_bind (wpAny_cRoomFor hu ?_))
  refine wpAny_bind (I.type.here (wpAny_bind (hb.here ?_)))
  split
  · rename_i q
    have e : subIn K tb (.ref C) = some false := by
      rcases Bool.or_eq_true_iff.mp hn with e | e
      · rw [beq_iff_eq.mp e] at q; simp at q
      · exact beq_iff_eq.mp e
    refine wpAny_bind ((looks_subIn X e).here ?_)
    simp only [Bool.false_eq_true, if_false]
    refine wpAny_bind (wpAny_mono one (fun r s' z => ?_) fun _ _ e => e)
    obtain ⟨v, rfl, hq⟩ := z
    exact wpAny_pure hq
  · refine wpAny_bind (wpAny_pure ?_)
    simp only [Bool.false_eq_true, if_false]
    refine wpAny_bind (wpAny_mono one (fun r s' z => ?_) fun _ _ e => e)
    obtain ⟨v, rfl, hq⟩ := z
    exact wpAny_pure hq
theorem ifBound_objNe {args : List Value} {Q : Option Value → Shared → Prop} (X : K.In s.heap) (I : PySem.W.InstAt s.heap x ox C od) (hs : PySem.W.findIn K (.ref C) "__ne__" = some (some (.builtin "object.__ne__")))
    (h : wpAny M A (call (.builtin "object.__ne__") (.ref x :: args)) (fun v => Q (some v)) E s) : wpAny M A (callSpecialIfBound? (.ref x) "__ne__" args) Q E s := by
  simp only [callSpecialIfBound?, bindSpecialIfBound?]
  refine wpAny_holding (wpAny_bind (wpAny_bind (wpAny_bind (I.type.here ((PySem.W.looks_findIn X hs).here ?_)))))
  refine wpAny_bind (wpAny_askSetting (wpAny_ite ?_))
  have fin : wpAny M A (call (.builtin "object.__ne__") ([.ref x] ++ args) >>= fun v => pure (some v)) Q E s := wpAny_bind (wpAny_mono h (fun v s' h' => wpAny_pure h') fun _ _ h' => h')
  split
  · exact wpAny_bind (wpAny_of_eq (F.cmp_object.ne.bind _) (wpAny_pure (by exact fin)))
  · exact wpAny_tryCatch (wpAny_bind (wpAny_of_eq (F.cmp_object.ne.bind _) (wpAny_pure (by exact fin))))
theorem entry_ne {Q : Fin → Shared → Prop} (hu : A.units < cLine) (X : K.In s.heap) (I : PySem.W.InstAt s.heap x ox C od) (hs : PySem.W.findIn K (.ref C) "__eq__" = some (some (.ref f))) (hf : PySem.W.isFn K (.ref f) = true)
    (h : wpAny M A (call (.ref f) [.ref x, b]) (fun v s' => ∃ k, v = .bool k ∧ Q (.done (.ret (.bool (!k)))) s') E s) : wpAny M A (Builtin.«object.__ne__» ⟨[.ref x, b], []⟩) Q E s := by
  unfold Builtin.«object.__ne__»
  repeat (first
    | with_reducible refine wpAny_cRoomFor hu ?_
    | (refine wpAny_bind (m := callSpecialIfBound? (.ref x) (Str.ofString "__eq__") [b])
        (ifBound_K X I hs hf (wpAny_mono h (fun r s' hr => by
          obtain ⟨k, rfl, hq⟩ := hr
          repeat (first | exact hq | exact wpAny_pure hq | exact wpAny_truthy_bool hq | (refine wpAny_bind (m := truthy (.bool _)) (wpAny_truthy_bool ?_)) | wp_step)) fun _ _ e => e)))
    | wp_step)
theorem call_objNe {Q : Value → Shared → Prop} (hu : A.in1.units < cLine) (X : K.In s.heap) (I : PySem.W.InstAt s.heap x ox C od) (hm : PySem.W.mroIn K C (.type "object") = some true) (hs : PySem.W.findIn K (.ref C) "__eq__" = some (some (.ref f))) (hf : PySem.W.isFn K (.ref f) = true)
    (h : wpAny (model prog w) A.in1 (call (.ref f) [.ref x, b]) (fun v s' => ∃ k, v = .bool k ∧ Q (.bool (!k)) s') E s) : wpAny (model prog w) A (call (.builtin "object.__ne__") [.ref x, b]) Q E s :=
  wpAny_call (codeAny_call_builtin F.cmp_object.ne.plain F.cmpEntry_ne (PySem.W.check_slot F.cmpKind_ne F.cmpSplit_ne (I.type.andThen (PySem.W.looks_mroIn X hm)) (F.cmpArgs_ne _ _) (entry_ne hu X I hs hf (wpAny_mono h (fun v s' ⟨k, e, q⟩ => ⟨k, e, q⟩) fun _ _ e => e))))
theorem ne_K {Q : Value → Shared → Prop} (hu : A.in1.units < cLine) (hu0 : A.units < cLine) (X : K.In s.heap) (I : InstAt s.heap x ox C od) (hb : Looks (model prog w) s.heap (typeOf b) tb) (hn : notFirst K C tb = true)
    (hm : PySem.W.mroIn K C (.type "object") = some true) (hne : PySem.W.findIn K (.ref C) "__ne__" = some (some (.builtin "object.__ne__"))) (hs : PySem.W.findIn K (.ref C) "__eq__" = some (some (.ref f))) (hf : PySem.W.isFn K (.ref f) = true)
    (h : wpAny (model prog w) A.in1 (call (.ref f) [.ref x, b]) (fun v s' => ∃ k, v = .bool k ∧ Q (.bool (!k)) s') E s) : wpAny (model prog w) A (richCompare .NotEq (.ref x) b) Q E s := by
  refine cmp_one (op := .NotEq) hu0 X I hb hn ?_
  unfold tryCompare
  refine wpAny_bind (ifBound_objNe X I hne (call_objNe hu X I hm hs hf (wpAny_mono h (fun v s' ⟨k, e, q⟩ => ⟨k, e, ?_⟩) fun _ _ e => e)))
  exact wpAny_pure ⟨_, rfl, q⟩
end
end OwC

namespace L2.Tr
open PySem PySem.Spec PyProof.Rows
section
variable {X : Cx} {K : PySem.W.Frag} {C f : Addr} {CX : CXT} {k : Nat} {fd : FuncData} {ps : List Str} {sp : Sp}
structure EqC (K : PySem.W.Frag) (C a : Addr) : Prop where
  eq : PySem.W.findIn K (.ref C) "__eq__" = some (some (.ref a))
  fn : PySem.W.isFn K (.ref a) = true
  ne : PySem.W.findIn K (.ref C) "__ne__" = some (some (.builtin "object.__ne__"))
  ob : PySem.W.mroIn K C (.type "object") = some true
def Other (K : PySem.W.Frag) (C : Addr) (H : Hp) (y : V) : Prop := (∃ T, TyX K H y (.type T) ∧ PySem.W.notFirst K C (.type T) = true) ∨ ∃ b dy gs, y = .ref b ∧ H b = some (.ins C dy gs)
def rEqO (K : PySem.W.Frag) (C : Addr) (sp : Sp) (neg : Bool) : R2 := fun x y H Q => ∃ a dx fs, x = .ref a ∧ H a = some (.ins C dx fs) ∧ Other K C H y ∧ sp [x, y] H (fun v H' => ∃ b : Bool, v = .bl b ∧ Q (.bl (xor neg b)) H') E0
theorem other_looks {pins : List (Addr × Obj)} {σ : St} {H : Hp} {s : Shared} (I : Inv X pins σ H s) {y : V} {u : Value} (ry : RelV y u) (h : Other X.K C H y) : ∃ tb, PySem.W.Looks (model X.prog X.w) s.heap (typeOf u) tb ∧ PySem.W.notFirst X.K C tb = true := by
  rcases h with ⟨T, ty, hn⟩ | ⟨b, dy, gs, rfl, hb⟩
  · obtain ⟨P, kx, hP, _⟩ := kit_of I ry ty
    exact ⟨_, kx.ty _ _ I.kIn hP, hn⟩
  · obtain rfl : u = Value.ref b := ry
    obtain ⟨mB, J, _⟩ := ins_get I.hok hb
    obtain ⟨od, J, _⟩ := J.look
    exact ⟨.ref C, J.type, by simp [PySem.W.notFirst]⟩
theorem op_eqO (F : FnOk X.prog X.w X.K X.mg X.base CX0 k f fd ps sp) (hr : Room k X.A) (O : EqC X.K C f) (hb : Binds X.K fd ps []) : OpR X (compareOp .Eq) (rEqO X.K C sp false) := by
  intro pins s σ H x y v u Q I rx ry h
  obtain ⟨a, dx, fs, rfl, ha, ho, q⟩ := h
  obtain rfl : v = Value.ref a := rx
  obtain ⟨mA, J, _⟩ := ins_get I.hok ha
  obtain ⟨od, J, _⟩ := J.look
  obtain ⟨m, fr⟩ := I.fr
  obtain ⟨tb, lk, hn⟩ := other_looks I ry ho
  show wpAny _ _ (richCompare .Eq (.ref a) u) _ _ _
  refine PySem.W.cmp_K (op := .Eq) hr.units0 fr I.ok.mod.kin J lk hn O.eq O.fn ?_
  refine thn (run_fn (dvs := []) (ds := []) F hr hb .nil pass0 I (show Vals [V.ref a, y] [Value.ref a, u] from .cons (show RelV (V.ref a) (Value.ref a) from rfl) (.cons ry .nil)) q) fun u' s1 hq => ?_
  obtain ⟨z, H', I', rz, b, ez, hq⟩ := hq
  subst ez
  obtain rfl : u' = Value.bool b := rz
  exact ⟨.bl b, H', I', rfl, by rwa [Bool.false_xor] at hq⟩
theorem op_neO (F : FnOk X.prog X.w X.K X.mg X.base CX0 k f fd ps sp) (hr : Room (k + 1) X.A) (O : EqC X.K C f) (hb : Binds X.K fd ps []) : OpR X (compareOp .NotEq) (rEqO X.K C sp true) := by
  intro pins s σ H x y v u Q I rx ry h
  obtain ⟨a, dx, fs, rfl, ha, ho, q⟩ := h
  obtain rfl : v = Value.ref a := rx
  obtain ⟨mA, J, _⟩ := ins_get I.hok ha
  obtain ⟨od, J, _⟩ := J.look
  obtain ⟨tb, lk, hn⟩ := other_looks I ry ho
  show wpAny _ _ (richCompare .NotEq (.ref a) u) _ _ _
  refine OwC.ne_K hr.in1.units0 hr.units0 I.kIn J lk hn O.ob O.ne O.eq O.fn ?_
  have hl := F.len _ _ _ _ q
  have r2 : Vals [V.ref a, y] [Value.ref a, u] := .cons (show RelV (V.ref a) (Value.ref a) from rfl) (.cons ry .nil)
  refine wpAny_call (codeAny_mono (F.run X.A.in1 X.stack s H ⟨[.ref a, u], []⟩ [.ref a, u] [.ref a, y] _ E0 hr.in1 I.env0.in1 (by
    have := hb s [.ref a, u] I.kIn (by simpa using hl)
    simpa using this) r2 q) fun r s' hq => ?_)
  cases r with
  | error e => exact (show False from hq).elim
  | ok fl =>
    cases fl with
    | ret w' =>
      obtain ⟨z, H', I', rz, b, ez, hq2⟩ := I.after hq
      subst ez
      obtain rfl : w' = Value.bool b := rz
      exact ⟨b, rfl, .bl (!b), H', I', rfl, by rwa [Bool.true_xor] at hq2⟩
    | next => exact False.elim hq
    | brk => exact False.elim hq
    | cont => exact False.elim hq
theorem notFirst_ty {d : D} {s : String} (h : tyName d = some s) : PySem.W.notFirst K C (.type s) = true := by
  have key : ∀ (s : String) (l : List String), fastBuiltinMro s = some (l.map Value.type) → PySem.W.notFirst K C (.type s) = true := fun s l e => by
    unfold PySem.W.notFirst
    rw [Bool.or_eq_true]
    right
    show ((fastBuiltinMro s).map (·.contains (.ref C)) == some false) = true
    rw [e]
    have : (l.map Value.type).contains (Value.ref C) = false := by
      rw [List.contains_eq_any_beq]
      refine List.any_eq_false.mpr fun v hv => ?_
      obtain ⟨t, _, rfl⟩ := List.mem_map.mp hv
      simp
    rw [Option.map_some, this]
    rfl
  unfold tyName at h
  split at h <;> cases h
  · exact key "NoneType" ["NoneType", "object"] (by decide +kernel)
  · exact key "bool" ["bool", "int", "object"] (by decide +kernel)
  · exact key "int" ["int", "object"] (by decide +kernel)
  · exact key "str" ["str", "object"] (by decide +kernel)
  · exact key "list" ["list", "object"] (by decide +kernel)
  · exact key "tuple" ["tuple", "object"] (by decide +kernel)
  · exact key "dict" ["dict", "object"] (by decide +kernel)
def okOther (C0 : Addr) : D → Bool
  | .obj C _ _ => decide (C = C0)
  | d => (tyName d).isSome
theorem other_ok {C0 : Addr} {d : D} (h : okOther C0 d = true) {H : Hp} {v : V} (r : Rep H d v) : Other K C0 H v := by
  have fin : (tyName d).isSome = true → Other K C0 H v := fun h => by
    obtain ⟨s, hs⟩ := Option.isSome_iff_exists.mp h
    exact .inl ⟨s, Tr.ty_of hs r, notFirst_ty hs⟩
  cases d with
  | obj C ns ds =>
    have hC : C = C0 := of_decide_eq_true h
    subst hC
    obtain ⟨b, dy, us, rfl, h1, _⟩ := r.un_obj
    exact .inr ⟨b, dy, _, rfl, h1⟩
  | leaf v => exact fin h
  | seq b ds => exact fin h
  | dct ks ds => exact fin h
  | frz ks ds => exact fin h
structure Eqr (P : Program) (w : World) (K : PySem.W.Frag) (mg : Str → Option Value) (base : Heap) (C : Addr) (k : Nat) (f : List D → Option D) : Prop where
  ex : ∃ (a : Addr) (fd : FuncData) (ps : List Str), EqC K C a ∧ FnOk P w K mg base CX0 k a fd ps (spP f) ∧ Binds K fd ps []
theorem eqr_eq {C0 : Addr} {g : List D → Option D} (h : Eqr X.prog X.w X.K X.mg X.base C0 k g) (hr : Room k X.A) : OpR X (compareOp .Eq) (rEqO X.K C0 (spP g) false) := by
  obtain ⟨a, fd, ps, h1, h2, h3⟩ := h.ex
  exact op_eqO h2 hr h1 h3
theorem eqr_ne {C0 : Addr} {g : List D → Option D} (h : Eqr X.prog X.w X.K X.mg X.base C0 k g) (hr : Room (k + 1) X.A) : OpR X (compareOp .NotEq) (rEqO X.K C0 (spP g) true) := by
  obtain ⟨a, fd, ps, h1, h2, h3⟩ := h.ex
  exact op_neO h2 hr h1 h3
def eqOD (neg : Bool) (C0 : Addr) (g : List D → Option D) : D → D → Option D := fun x y => match x with
  | .obj C _ _ => if C = C0 ∧ okOther C0 y = true then ((g [x, y]).bind asB).map fun b => bD (xor neg b) else none
  | _ => none
theorem r2_eqO {neg : Bool} {C0 : Addr} {g : List D → Option D} : R2D (rEqO K C0 (spP g) neg) (eqOD neg C0 g) := fun d1 d2 z e G H v1 v2 x r1 r2 Q k => by
  unfold eqOD at e
  split at e
  · rename_i C ns ds
    split at e
    · rename_i hC
      obtain ⟨rfl, ho⟩ := hC
      obtain ⟨b, e1, rfl⟩ := Option.map_eq_some_iff.mp e
      obtain ⟨db, e2, e3⟩ := Option.bind_eq_some_iff.mp e1
      have rr := r1.rep x
      obtain ⟨p, dx, us, rfl, h1, h2, h3⟩ := r1.obj x
      refine ⟨p, dx, _, rfl, h1, other_ok ho (r2.rep x), H, _, db, Ex.refl _, .cons rr (.cons (r2.rep x) .nil), e2, fun v G2 H2 f2 r => ?_⟩
      unfold asB at e3
      split at e3
      · cases e3
        obtain ⟨rfl, _⟩ := r.un_lf
        exact ⟨b, rfl, k _ G H2 (.of x (f2.g.trans f2.gh)) (.lf rfl)⟩
      · cases e3
    · cases e
  · cases e
end
end L2.Tr

namespace L2.Tr
open PySem PySem.Spec PyProof.Rows
section
variable {X : Cx} {K : PySem.W.Frag} {C : Addr} {k : Nat} {e e2 o tg a b c : Expr} {es : List Expr} {t t' ta tb tc te : TE} {φ φ' φa φb φc : Env → Option D} {ψ : Env → Option (List D)} {pos : Pos}
/-! ### len of an instance with a __len__ of its own -/
structure Len (P : Program) (w : World) (K : PySem.W.Frag) (mg : Str → Option Value) (base : Heap) (C : Addr) (k : Nat) (f : List D → Option D) : Prop where
  ex : ∃ (a : Addr) (fd : FuncData) (ps : List Str), L2.Vy.Own1 K C a "__len__" ∧ FnOk P w K mg base CX0 k a fd ps (spP f) ∧ Binds K fd ps []
def rLenO (C : Addr) (sp : Sp) : List V → Hp → VK → Prop := fun xs H Q => ∃ a dx fs, xs = [.ref a] ∧ H a = some (.ins C dx fs) ∧ sp [.ref a] H (fun v H' => ∃ n : Int, v = .int n ∧ 0 ≤ n ∧ n < 2 ^ 63 ∧ Q (.int n) H') E0
theorem call_lenO {f : Addr} {fd : FuncData} {ps : List Str} {sp : Sp} (F : FnOk X.prog X.w X.K X.mg X.base CX0 k f fd ps sp) (hr : Room (k + 1) X.A) (O : L2.Vy.Own1 X.K C f "__len__") (hb : Binds X.K fd ps []) : CallR X (.builtin "len") (rLenO C sp) := by
  intro pins s σ H xs us Q I rv h
  obtain ⟨a, dx, fs, rfl, ha, q⟩ := h
  obtain rfl : us = [Value.ref a] := by
    cases rv with
    | cons r t => cases t; cases r; rfl
  obtain ⟨mA, J, _⟩ := ins_get I.hok ha
  obtain ⟨od, J, _⟩ := J.look
  obtain ⟨m, fr⟩ := I.fr
  refine PySem.W.len_K fr I.ok.mod.kin J O.hs O.hf ?_
  have hl := F.len _ _ _ _ q
  have r2 : Vals [V.ref a] [Value.ref a] := .cons (show RelV (V.ref a) (Value.ref a) from rfl) .nil
  refine wpAny_call (codeAny_mono (F.run X.A.in1 X.stack s H ⟨[.ref a], []⟩ [.ref a] [.ref a] _ E0 hr.in1 I.env0.in1 (by
    have := hb s [.ref a] I.kIn (by simpa using hl)
    simpa using this) r2 q) fun r s' hq => ?_)
  cases r with
  | error e => exact (show False from hq).elim
  | ok fl =>
    cases fl with
    | ret w' =>
      obtain ⟨z, H', I', rz, n, ez, h0, h1, hq2⟩ := I.after hq
      subst ez
      obtain ⟨tk, rfl⟩ := rz
      exact ⟨⟨h0, h1⟩, .int n, H', I'.tok _, ⟨_, rfl⟩, hq2⟩
    | next => exact False.elim hq
    | brk => exact False.elim hq
    | cont => exact False.elim hq
theorem len_cr {f : List D → Option D} (h : Len X.prog X.w X.K X.mg X.base C k f) (hr : Room (k + 1) X.A) : CallR X (.builtin "len") (rLenO C (spP f)) := by
  obtain ⟨a, fd, ps, h1, h2, h3⟩ := h.ex
  exact call_lenO h2 hr h1 h3
def lenOD (C0 : Addr) (f : List D → Option D) : List D → Option D
  | [.obj C ns ds] => if C = C0 then ((f [.obj C ns ds]).bind asI).bind fun n => if 0 ≤ n ∧ n < 2 ^ 63 then some (.leaf (.int n)) else none else none
  | _ => none
theorem r1_lenO {C0 : Addr} {f : List D → Option D} : R1D (rLenO C0 (spP f)) (lenOD C0 f) := fun ds z e G H vs x r1 Q k => by
  unfold lenOD at e
  split at e
  · rename_i C ns ds
    split at e
    · rename_i hC
      subst hC
      obtain ⟨v, rfl, r⟩ := views1 r1
      obtain ⟨n, e1, e2⟩ := Option.bind_eq_some_iff.mp e
      obtain ⟨dn, e3, e4⟩ := Option.bind_eq_some_iff.mp e1
      split at e2
      · rename_i hn
        cases e2
        have rr := r.rep x
        obtain ⟨p, dx, us, rfl, h1, h2, h3⟩ := r.obj x
        refine ⟨p, dx, _, rfl, h1, H, _, dn, Ex.refl _, .cons rr .nil, e3, fun v G2 H2 f2 r => ?_⟩
        unfold asI at e4
        split at e4
        · cases e4
          obtain ⟨rfl, _⟩ := r.un_lf
          exact ⟨n, rfl, hn.1, hn.2, k _ G H2 (.of x (f2.g.trans f2.gh)) (.lf rfl)⟩
        · cases e4
      · cases e2
    · cases e
  · cases e
/-! ### len(set(words)) -/
def strsOf : List D → Option (List Str)
  | [] => some []
  | .leaf (.str x) :: r => (strsOf r).map (x :: ·)
  | _ :: _ => none
theorem strs_un : ∀ {ds : List D} {xs : List Str}, strsOf ds = some xs → ds = (xs.map V.str).map D.leaf
  | [], xs, h => by cases h; rfl
  | d :: r, xs, h => by
    unfold strsOf at h
    split at h
    · rename_i hh; cases hh
    · rename_i x r' hh
      obtain ⟨ws, h1, rfl⟩ := Option.map_eq_some_iff.mp h
      injection hh with e1 e2
      subst e1 e2
      rw [strs_un h1]; rfl
    · cases h
theorem strs_map : ∀ (xs : List Str), strsOf (xs.map fun x => D.leaf (.str x)) = some xs
  | [] => rfl
  | x :: r => by rw [List.map_cons, strsOf, strs_map r]; rfl
def lenSF (φ : Env → Option D) : Env → Option D := fun ρ => (φ ρ).bind fun d => match d with
  | .seq _ ds => (strsOf ds).bind fun xs => if xs.length ≤ 100 then some (.leaf (.int (Vs.dcn xs xs.length))) else none
  | _ => none
theorem pu_lenS {p p2 q : Pos} (hc : X.calm = true) (hg : Gl X "len") (hm : X.mg "len" = none) (hg2 : Gl X "set") (hm2 : X.mg "set" = none) (h : ViD X a ta φa)
    (na : starEach [a] X.env = (false, eval a X.env) :: starEach [] X.env := by rfl) : PuD X (.Call (.Name "len" p) [.Call (.Name "set" p2) [a] [] q] [] pos) (L2.Vs.tLenS X.K ta) (lenSF φa) := ⟨L2.Vs.pe_lenS hc hg hm hg2 hm2 h.pe na, fun ρ z ee G H σ x Q k => by
  obtain ⟨d, e1, e2⟩ := Option.bind_eq_some_iff.mp ee
  refine h.ev ρ d e1 G H σ x _ fun v G1 H1 f1 r1 => ?_
  split at e2
  · rename_i b ds
    obtain ⟨xs, e3, e4⟩ := Option.bind_eq_some_iff.mp e2
    split at e4
    · rename_i hl
      cases e4
      obtain rfl := strs_un e3
      obtain ⟨l, us, rfl, h1, l1, q1⟩ := r1.seq f1.gh
      obtain ⟨rfl, _⟩ := reps_leafy q1
      refine ⟨l, xs, rfl, ?_, hl, k _ G1 H1 f1 (.lf rfl)⟩
      cases b with
      | true => exact .inl (SqL.of h1)
      | false => exact .inr (SqT.of h1)
    · cases e4
  · cases e2⟩
/-! ### list(d.items()) -/
def itemsO (φ : Env → Option D) : Env → Option (List D) := fun ρ => (φ ρ).bind fun d => match d with
  | .dct ks ds => if ks.all okKey = true then some ((ks.zip ds).map fun p => .seq false [keyV p.1, p.2]) else none
  | _ => none
theorem items_reps {G H' : Hp} : ∀ {ks : List Key} {ds : List D} {us : List V} {ts : List Addr}, ks.all okKey = true → ks.length = ds.length → Reps G ds us → Ex G H' → Paired (fun (t : Addr) (q : Key × V) => H' t = some (.tup [kV q.1, q.2])) ts (ks.zip us) →
    Reps H' ((ks.zip ds).map fun p => .seq false [keyV p.1, p.2]) (ts.map V.ref)
  | [], ds, us, ts, _, _, _, _, p => by
    rw [List.zip_nil_left] at p
    cases p
    exact .nil
  | k :: ks, [], us, ts, _, h, _, _, _ => by simp at h
  | k :: ks, d :: ds, us, ts, ha, hl, r, e, p => by
    obtain ⟨u, us1, rfl, q, t⟩ := r.un
    rw [List.all_cons, Bool.and_eq_true] at ha
    rw [List.zip_cons_cons] at p
    cases p with
    | cons p1 p2 =>
      refine .cons (.sq (b := false) p1 (by show 2 ≤ Lim; decide) (.cons ?_ (.cons (q.mono e) .nil))) (items_reps ha.2 (by simpa using hl) t e p2)
      cases k with
      | inl i => exact .lf rfl
      | inr y => exact .lf ha.1
theorem ow_items {p apos cpos : Pos} (hc : X.calm = true) (h : ViD X e t φ) (hg : Gl X "list") (hm : X.mg "list" = none) (hv : bootBuiltins "list" = some (.type "list")) (hbase : attributeBase e "items" X.env (eval e X.env) = eval e X.env := by rfl) (hline : (apos.endLine == cpos.line) = true := by rfl)
    (hs : starEach [.Call (.Attribute e "items" apos) [] [] cpos] X.env = (false, eval (.Call (.Attribute e "items" apos) [] [] cpos) X.env) :: starEach [] X.env := by rfl) :
    OwD X (.Call (.Name "list" p) [.Call (.Attribute e "items" apos) [] [] cpos] [] pos) (LiI.tListItems t) (itemsO φ) := ⟨LiI.pe_listItems hc h.pe hg hm hv hbase hline hs, fun ρ z ee G H σ x Q kk => by
  obtain ⟨d, e1, e2⟩ := Option.bind_eq_some_iff.mp ee
  refine h.ev ρ d e1 G H σ x _ fun v G1 H1 f1 r1 => ?_
  split at e2
  · rename_i ks ds
    split at e2
    · rename_i hk
      cases e2
      obtain ⟨a, us, rfl, h1, l0, l1, q⟩ := r1.dct f1.gh
      refine ⟨a, _, rfl, h1, fun H' p ts ex np nt npt hp pr => ?_⟩
      have gh : Ex G1 H' := f1.gh.trans ex
      -- G2: what was there, and the pairs
      let G2 : Hp := fun c => if c = p then none else if c ∈ ts then H' c else G1 c
      have e12 : Ex G1 G2 := fun c o ho => by
        have c1 : c ≠ p := fun z => by rw [z, f1.gh.back np] at ho; cases ho
        have c2 : c ∉ ts := fun z => by rw [f1.gh.back (nt c z)] at ho; cases ho
        show (if c = p then none else if c ∈ ts then H' c else G1 c) = some o
        rw [if_neg c1, if_neg c2]; exact ho
      have e2h : Ex G2 H' := fun c o ho => by
        have ho : (if c = p then none else if c ∈ ts then H' c else G1 c) = some o := ho
        by_cases c1 : c = p
        · rw [if_pos c1] at ho; cases ho
        · rw [if_neg c1] at ho
          by_cases c2 : c ∈ ts
          · rw [if_pos c2] at ho; exact ho
          · rw [if_neg c2] at ho; exact gh _ _ ho
      have pr2 : Paired (fun (t : Addr) (q : Key × V) => G2 t = some (.tup [kV q.1, q.2])) ts (ks.zip us) := by
        have : ∀ {as : List Addr} {qs : List (Key × V)}, (∀ c ∈ as, c ∈ ts) → Paired (fun (t : Addr) (q : Key × V) => H' t = some (.tup [kV q.1, q.2])) as qs → Paired (fun (t : Addr) (q : Key × V) => G2 t = some (.tup [kV q.1, q.2])) as qs := fun {as qs} hs pp => by
          induction pp with
          | nil => exact .nil
          | @cons c q as qs h t ih =>
            refine .cons ?_ (ih fun c hc => hs c (List.mem_cons_of_mem _ hc))
            have hc := hs c List.mem_cons_self
            show (if c = p then none else if c ∈ ts then H' c else G1 c) = _
            rw [if_neg (fun z => npt (by rw [← z]; exact hc)), if_pos hc]; exact h
        exact this (fun _ z => z) pr
      have hlen : (ts.map V.ref).length = ((ks.zip ds).map fun p => D.seq false [keyV p.1, p.2]).length := by
        rw [List.length_map, List.length_map, Paired.length pr, List.length_zip, List.length_zip, q.len]
      refine kk p (ts.map V.ref) G2 H' (f1.trans ⟨e12, e2h, ex, fun c z1 z2 => ?_⟩) (f1.ne np) (by show (if p = p then none else _) = none; rw [if_pos rfl]) hp (by rw [List.length_map, List.length_zip]; omega) (items_reps hk l0 (q.mono e12) (Ex.refl _) pr2)
      show (if c = p then none else if c ∈ ts then H' c else G1 c) = none
      by_cases c1 : c = p
      · rw [if_pos c1]
      · rw [if_neg c1, if_neg (fun z => z1 (nt c z))]; exact z2
    · cases e2
  · cases e2⟩
/-! ### == of plain data -/
mutual
def pyD : D → Option PyData
  | .leaf .non => some .none
  | .leaf (.bl b) => some (.bool b)
  | .leaf (.int i) => some (.int i)
  | .leaf (.str x) => some (.str x)
  | .leaf _ => none
  | .seq true ds => (pyDs ds).map .list
  | .seq false ds => (pyDs ds).map .tuple
  | .dct _ _ => none
  | .obj _ _ _ => none
  | .frz _ _ => none
def pyDs : List D → Option (List PyData)
  | [] => some []
  | d :: ds => (pyD d).bind fun p => (pyDs ds).map (p :: ·)
end
mutual
theorem rep_dp {K : PySem.W.Frag} {H : Hp} : ∀ {d : D} {v : V} {p : PyData}, pyD d = some p → Rep H d v → Dp K H v p
  | .leaf x, v, p, h, r => by
    obtain ⟨rfl, lf⟩ := r.un_lf
    cases v <;> simp only [pyD] at h <;> first | (cases h; done) | (cases h; first | exact .non | exact .bl _ | exact .int _ | exact .str _)
  | .seq b ds, v, p, h, r => by
    obtain ⟨a, us, rfl, h1, _, q⟩ := r.un_sq
    cases b with
    | true =>
      simp only [pyD] at h
      obtain ⟨ps, h2, rfl⟩ := Option.map_eq_some_iff.mp h
      exact .lst (SqL.of h1) (reps_dp h2 q)
    | false =>
      simp only [pyD] at h
      obtain ⟨ps, h2, rfl⟩ := Option.map_eq_some_iff.mp h
      exact .tup (SqT.of h1) (reps_dp h2 q)
  | .dct _ _, v, p, h, r => by simp only [pyD] at h; cases h
  | .obj _ _ _, v, p, h, r => by simp only [pyD] at h; cases h
  | .frz _ _, v, p, h, r => by simp only [pyD] at h; cases h
theorem reps_dp {K : PySem.W.Frag} {H : Hp} : ∀ {ds : List D} {us : List V} {ps : List PyData}, pyDs ds = some ps → Reps H ds us → DpAll K H us ps
  | [], us, ps, h, r => by
    simp only [pyDs] at h
    cases h
    rw [r.un0]
    exact .nil
  | d :: ds, us, ps, h, r => by
    simp only [pyDs] at h
    obtain ⟨p, h1, h2⟩ := Option.bind_eq_some_iff.mp h
    obtain ⟨qs, h3, rfl⟩ := Option.map_eq_some_iff.mp h2
    obtain ⟨u, us1, rfl, q, t⟩ := r.un
    exact .cons (rep_dp h1 q) (reps_dp h3 t)
end
def eqP (neg : Bool) (x y : D) : Option D := (pyD x).bind fun p => (pyD y).bind fun q => if SeqAt.shaped p = true ∧ SeqAt.shaped q = true then some (bD (xor neg (PyData.eqv p q))) else none
theorem eqP_un {neg : Bool} {x y z : D} (h : eqP neg x y = some z) : ∃ p q, pyD x = some p ∧ pyD y = some q ∧ SeqAt.shaped p = true ∧ SeqAt.shaped q = true ∧ z = bD (xor neg (PyData.eqv p q)) := by
  obtain ⟨p, h1, h⟩ := Option.bind_eq_some_iff.mp h
  obtain ⟨q, h2, h⟩ := Option.bind_eq_some_iff.mp h
  split at h
  · rename_i hs
    cases h
    exact ⟨p, q, h1, h2, hs.1, hs.2, rfl⟩
  · cases h
theorem r2_eqD : R2D (rEqD K) (eqP false) := fun d1 d2 z e G H v1 v2 x r1 r2 Q k => by
  obtain ⟨p, q, h1, h2, h3, h4, rfl⟩ := eqP_un e
  exact ⟨p, q, rep_dp h1 (r1.rep x), rep_dp h2 (r2.rep x), h3, h4, k _ G H (.refl x) (by rw [Bool.false_xor]; exact .lf rfl)⟩
theorem r2_neD : R2D (rNeD K) (eqP true) := fun d1 d2 z e G H v1 v2 x r1 r2 Q k => by
  obtain ⟨p, q, h1, h2, h3, h4, rfl⟩ := eqP_un e
  exact ⟨p, q, rep_dp h1 (r1.rep x), rep_dp h2 (r2.rep x), h3, h4, k _ G H (.refl x) (by rw [Bool.true_xor]; exact .lf rfl)⟩
end
end L2.Tr

/-! zip of two things of any of these kinds: a list, a tuple, the values of a dict that stands still -/
namespace L2.Zg
open PySem
open PySem.Sem (wp)
/-- an iterator: N k, it stands at k; Dt xs, what it walks stands as xs; ks, where that stands -/
structure Src (P : Program) (w : World) (it : Addr) (ks : List Addr) (N : Nat → Heap → Prop) (Dt : List Value → Heap → Prop) : Prop where
  obj : ∀ k h, N k h → ∃ o, h.get? it = some o ∧ ∀ v, o.data ≠ .cell v
  keepN : ∀ k h h', N k h → (∀ o, h.get? it = some o → h'.get? it = some o) → N k h'
  keepD : ∀ xs h h', Dt xs h → (∀ c ∈ ks, ∀ o, h.get? c = some o → h'.get? c = some o) → Dt xs h'
  item : ∀ (A : Around) (E Q : Value → Shared → Prop) (s : Shared) (k : Nat) (xs : List Value) (x : Value), N k s.heap → Dt xs s.heap → xs[k]? = some x → (∀ h', N (k + 1) h' → Heap.SameBut it s.heap h' → Q x { s with heap := h' }) →
    wpAny (model P w) A (Builtin.SmallTypes.nextOf (.ref it)) Q E s
  done : ∀ (A : Around) (E Q : Value → Shared → Prop) (s : Shared) (k : Nat) (xs : List Value), A.handled = none → N k s.heap → Dt xs s.heap → xs[k]? = none →
    (∀ h' e, Heap.ExtBut it s.heap h' → (∃ o, h'.get? e = some o ∧ o.cls = .type "StopIteration") → E (.ref e) { s with heap := h' }) → wpAny (model P w) A (Builtin.SmallTypes.nextOf (.ref it)) Q E s
theorem src_lst {P : Program} {w : World} {it l : Addr} : Src P w it [l] (fun k h => h.IsListIter it l k) (fun xs h => h.IsList l xs.toArray) where
  obj := fun k h st => by obtain ⟨o, e, _, d⟩ := st; exact ⟨o, e, fun v q => by rw [d] at q; cases q⟩
  keepN := fun k h h' st e => st.at e
  keepD := fun xs h h' st e => st.at (e l (by simp))
  item := fun A E Q s k xs x h1 h2 hx hQ => wpAny_nextOf_list_item h1 h2 (by simpa using hx) hQ
  done := fun A E Q s k xs hh h1 h2 hx hE => wpAny_nextOf_list_end hh h1 h2 (by simpa using hx) hE
theorem src_tup {P : Program} {w : World} {it l : Addr} : Src P w it [l] (fun k h => h.IsTupleIter it l k) (fun xs h => h.IsTuple l xs.toArray) where
  obj := fun k h st => by obtain ⟨o, e, _, d⟩ := st; exact ⟨o, e, fun v q => by rw [d] at q; cases q⟩
  keepN := fun k h h' st e => st.at e
  keepD := fun xs h h' st e => st.at (e l (by simp))
  item := fun A E Q s k xs x h1 h2 hx hQ => RZ.nextOf_tuple_item h1 h2 (by simpa using hx) hQ
  done := fun A E Q s k xs hh h1 h2 hx hE => RZ.nextOf_tuple_end hh h1 h2 (by simpa using hx) hE
section
variable {prog : Program} {w : World} {K : Type} [DecidableEq K] {knd : KeyKind prog w K} {A : Around} {E : Value → Shared → Prop} {s : Shared}
theorem nextOf_vals_item {it d : Addr} {i ep : Nat} {kvs : List (K × Value)} {k : K} {v : Value} {Q : Value → Shared → Prop} (hit : s.heap.IsValIter it d i kvs.length ep)
    (hm : s.heap.DictAt knd d kvs ep) (hx : kvs[i]? = some (k, v))
    (hQ : ∀ h', h'.IsValIter it d (i + 1) kvs.length ep → Heap.SameBut it s.heap h' → Q v { s with heap := h' }) :
    wpAny (model prog w) A (Builtin.SmallTypes.nextOf (.ref it)) Q E s := by
  obtain ⟨o, ho, hc, hd⟩ := id hit
  obtain ⟨od, es, hod, hcd, hdd, hk, hp, hn⟩ := id hm
  unfold Builtin.SmallTypes.nextOf
  refine wpAny_bind (wpAny_callSpecial?_slot (name := Str.ofString "__next__") hit.typeIs F.slot_dict_valueiterator_next
    (wpAny_call_entry F.slot_dict_valueiterator_next hit.typeIs F.entry_dict_valueiterator_next ?_ (F.args_dict_valueiterator_next_1 _)))
  refine wpAny_bind (wpAny_pure ?_)
  refine wpAny_bind ?_
  refine wpAny_bind ?_
  first | refine wpAny_bind (wpAny_typeNameOfWhole_valiter hit.typeIs (wpAny_pure ?_)) | refine wpAny_bind (wpAny_typeNameOf_valiter hit.typeIs (wpAny_pure ?_))
  refine wpAny_bind (wpAny_fieldsOf ho hd ?_)
  have hown : Builtin.Dict_items.ownsTuple "dict_valueiterator" = false := by decide
  simp only [hown, Bool.false_eq_true, if_false]
  show wpAny _ _ (if (Value.ref d == Value.none) = true then _ else _) _ _ s
  rw [if_neg (show ¬ ((Value.ref d == Value.none) = true) from Bool.false_ne_true)]
  refine wpAny_bind (wpAny_pure ?_)
  refine wpAny_bind (wpAny_dictEntries hod hdd ?_)
  have hsz : es.size = kvs.length := by rw [← hp.length]; simp
  rw [if_neg (by rw [hsz]; simp)]
  refine wpAny_bind (wpAny_pure ?_)
  refine wpAny_bind (wpAny_dictEpoch hod hdd ?_)
  rw [if_neg (by simp)]
  refine wpAny_pure ?_
  have hlt : i < kvs.length := by
    rcases Nat.lt_or_ge i kvs.length with h | h
    · exact h
    · simp [List.getElem?_eq_none h] at hx
  have hlt' : i < es.size := by rw [hsz]; exact hlt
  have hval : es[i].val = v := (hp.get? (e := es[i]) (by simp [hlt']) hx).2
  simp only [show ¬ ((i : Int) < 0) from by omega, if_false, Int.toNat_natCast, Array.getElem?_eq_getElem hlt']
  refine wpAny_bind ?_
  first | refine wpAny_bind (wpAny_typeNameOfWhole_valiter hit.typeIs (wpAny_pure ?_)) | refine wpAny_bind (wpAny_typeNameOf_valiter hit.typeIs (wpAny_pure ?_))
  refine wpAny_bind (wpAny_isOneOf_valiter hit.typeIs ?_)
  show wpAny _ _ (setField (.ref it) 1 (rawInt ((i : Int) + 1)) >>= _) _ _ s
  refine wpAny_bind (wpAny_setField ho hd (by simp) ?_)
  have hit' : (s.heap.update it (Obj.mapFields (·.setIfInBounds 1 (rawInt ((i : Int) + 1))))).IsValIter it d (i + 1) kvs.length ep :=
    ⟨_, Heap.get?_update_self _ ho (Obj.isFreed_of_fields (Obj.data_mapFields hd _)), (Obj.cls_mapFields ..).trans hc, by rw [Obj.data_mapFields hd]; simp [rawInt]⟩
  refine wpAny_bind (wpAny_holding ?_)
  refine wpAny_bind (wpAny_isOneOf_valiter (s := { s with heap := s.heap.update it (Obj.mapFields (·.setIfInBounds 1 (rawInt ((i : Int) + 1)))) }) hit'.typeIs ?_)
  refine wpAny_bind (wpAny_isOneOf_valiter (s := { s with heap := s.heap.update it (Obj.mapFields (·.setIfInBounds 1 (rawInt ((i : Int) + 1)))) }) hit'.typeIs ?_)
  show wpAny _ _ (pure es[i].val) _ _ _
  exact wpAny_pure (wpAny_pure ⟨_, rfl, wpAny_pure (hval ▸ hQ _ hit' (Heap.SameBut.update ..))⟩)
theorem nextOf_vals_end {it d : Addr} {i ep : Nat} {kvs : List (K × Value)} {Q : Value → Shared → Prop} (hh : A.handled = none) (hit : s.heap.IsValIter it d i kvs.length ep)
    (hm : s.heap.DictAt knd d kvs ep) (hx : kvs[i]? = none)
    (hE : ∀ h' e, Heap.ExtBut it s.heap h' → (∃ o, h'.get? e = some o ∧ o.cls = .type "StopIteration") → E (.ref e) { s with heap := h' }) : wpAny (model prog w) A (Builtin.SmallTypes.nextOf (.ref it)) Q E s := by
  obtain ⟨o, ho, hc, hd⟩ := id hit
  obtain ⟨od, es, hod, hcd, hdd, hk, hp, hn⟩ := id hm
  unfold Builtin.SmallTypes.nextOf
  refine wpAny_bind (wpAny_callSpecial?_slot (name := Str.ofString "__next__") hit.typeIs F.slot_dict_valueiterator_next
    (wpAny_call_entry F.slot_dict_valueiterator_next hit.typeIs F.entry_dict_valueiterator_next ?_ (F.args_dict_valueiterator_next_1 _)))
  refine wpAny_bind (wpAny_pure ?_)
  refine wpAny_bind ?_
  refine wpAny_bind ?_
  first | refine wpAny_bind (wpAny_typeNameOfWhole_valiter hit.typeIs (wpAny_pure ?_)) | refine wpAny_bind (wpAny_typeNameOf_valiter hit.typeIs (wpAny_pure ?_))
  refine wpAny_bind (wpAny_fieldsOf ho hd ?_)
  have hown : Builtin.Dict_items.ownsTuple "dict_valueiterator" = false := by decide
  simp only [hown, Bool.false_eq_true, if_false]
  show wpAny _ _ (if (Value.ref d == Value.none) = true then _ else _) _ _ s
  rw [if_neg (show ¬ ((Value.ref d == Value.none) = true) from Bool.false_ne_true)]
  refine wpAny_bind (wpAny_pure ?_)
  refine wpAny_bind (wpAny_dictEntries hod hdd ?_)
  have hsz : es.size = kvs.length := by rw [← hp.length]; simp
  rw [if_neg (by rw [hsz]; simp)]
  refine wpAny_bind (wpAny_pure ?_)
  refine wpAny_bind (wpAny_dictEpoch hod hdd ?_)
  rw [if_neg (by simp)]
  refine wpAny_pure ?_
  have hge : es.size ≤ i := by rw [hsz]; simpa using hx
  simp only [show ¬ ((i : Int) < 0) from by omega, if_false, Int.toNat_natCast, Array.getElem?_eq_none hge]
  refine wpAny_bind ?_
  first | refine wpAny_bind (wpAny_typeNameOfWhole_valiter hit.typeIs (wpAny_pure ?_)) | refine wpAny_bind (wpAny_typeNameOf_valiter hit.typeIs (wpAny_pure ?_))
  show wpAny _ _ (setField (.ref it) 0 .none >>= _) _ _ s
  refine wpAny_bind (wpAny_setField ho hd (by simp) ?_)
  show wpAny _ _ (newExc (.type "StopIteration") [] >>= _) _ _ _
  refine wpAny_bind ?_
  simp only [newExc, newTuple]
  refine wpAny_bind (wpAny_newObj_type ?_ (by size_fits))
  refine wpAny_bind (m := firstArgMember _ _) (wpAny_of_eq (a := Value.none) (by first | rfl | (simp only [firstArgMember]; rfl)) ?_)
  refine wpAny_newObj_type ?_ (by size_fits)
  simp only [raiseNew]
  refine wpAny_bind (wpAny_handled ?_)
  rw [show A.in1.handled = none from hh]
  refine wpAny_bind (wpAny_pure (wpAny_throw ?_))
  exact hE _ _ (((Heap.SameBut.update ..).extBut.push _).push _) ⟨_, Heap.get?_push_size _ rfl, rfl⟩
theorem src_vals {it d : Addr} {n ep : Nat} : Src prog w it [d] (fun k h => h.IsValIter it d k n ep) (fun xs h => ∃ kvs : List (K × Value), h.DictAt knd d kvs ep ∧ kvs.length = n ∧ xs = kvs.map (·.2)) where
  obj := fun k h st => by obtain ⟨o, e, _, dd⟩ := st; exact ⟨o, e, fun v q => by rw [dd] at q; cases q⟩
  keepN := fun k h h' st e => st.at e
  keepD := fun xs h h' st e => by obtain ⟨kvs, h1, h2⟩ := st; exact ⟨kvs, h1.at (e d (by simp)), h2⟩
  item := fun A E Q s k xs x h1 h2 hx hQ => by
    obtain ⟨kvs, h2, rfl, rfl⟩ := h2
    rw [List.getElem?_map] at hx
    obtain ⟨⟨a, b⟩, h3, rfl⟩ := Option.map_eq_some_iff.mp hx
    exact nextOf_vals_item h1 h2 h3 hQ
  done := fun A E Q s k xs hh h1 h2 hx hE => by
    obtain ⟨kvs, h2, rfl, rfl⟩ := h2
    rw [List.getElem?_map] at hx
    exact nextOf_vals_end hh h1 h2 (Option.map_eq_none_iff.mp hx) hE
end
structure Apart (z TI TO i1 i2 : Addr) (ks1 ks2 : List Addr) : Prop where
  TIz : TI ≠ z
  TOz : TO ≠ z
  i1z : i1 ≠ z
  i2z : i2 ≠ z
  TITO : TI ≠ TO
  TIi1 : TI ≠ i1
  TIi2 : TI ≠ i2
  TOi1 : TO ≠ i1
  TOi2 : TO ≠ i2
  i12 : i1 ≠ i2
  k1 : ∀ c ∈ ks1, c ≠ z ∧ c ≠ TO ∧ c ≠ i1 ∧ c ≠ i2
  k2 : ∀ c ∈ ks2, c ≠ z ∧ c ≠ TO ∧ c ≠ i1 ∧ c ≠ i2
theorem nne {a b : Nat} (h : a < b ∨ b < a) : (show Addr from a) ≠ (show Addr from b) := fun z => by
  have z : a = b := z
  omega
theorem apart (n : Nat) {ks1 ks2 : List Addr} (h1 : ∀ c ∈ ks1, Nat.lt c n) (h2 : ∀ c ∈ ks2, Nat.lt c n) : Apart (n + 4) (n + 2) (n + 3) n (n + 1) ks1 ks2 where
  TIz := nne (by omega)
  TOz := nne (by omega)
  i1z := nne (by omega)
  i2z := nne (by omega)
  TITO := nne (by omega)
  TIi1 := nne (by omega)
  TIi2 := nne (by omega)
  TOi1 := nne (by omega)
  TOi2 := nne (by omega)
  i12 := nne (by omega)
  k1 := fun c hc => by
    have e := h1 c hc
    exact ⟨nne (.inl (Nat.lt_of_lt_of_le e (Nat.le_add_right _ _))), nne (.inl (Nat.lt_of_lt_of_le e (Nat.le_add_right _ _))), nne (.inl e), nne (.inl (Nat.lt_of_lt_of_le e (Nat.le_add_right _ _)))⟩
  k2 := fun c hc => by
    have e := h2 c hc
    exact ⟨nne (.inl (Nat.lt_of_lt_of_le e (Nat.le_add_right _ _))), nne (.inl (Nat.lt_of_lt_of_le e (Nat.le_add_right _ _))), nne (.inl e), nne (.inl (Nat.lt_of_lt_of_le e (Nat.le_add_right _ _)))⟩
section
variable {prog : Program} {w : World} {A : Around} {E : Value → Shared → Prop} {s : Shared} {ks1 ks2 : List Addr} {N1 N2 : Nat → Heap → Prop} {D1 D2 : List Value → Heap → Prop}
theorem next_item {z TI TO i1 i2 : Addr} {k1 k2 : Nat} {xs ys : List Value} {x y a b : Value} {Q : Value → Shared → Prop} (D : Apart z TI TO i1 i2 ks1 ks2) (S1 : Src prog w i1 ks1 N1 D1) (S2 : Src prog w i2 ks2 N2 D2)
    (hz : IsZip s.heap z TI TO .none) (hTI : IsPair s.heap TI (.ref i1) (.ref i2)) (hTO : IsPair s.heap TO a b)
    (h1 : N1 k1 s.heap) (h2 : N2 k2 s.heap) (hl1 : D1 xs s.heap) (hl2 : D2 ys s.heap) (hx : xs[k1]? = some x) (hy : ys[k2]? = some y)
    (hQ : ∀ h', IsZip h' z TI TO (rawInt s.heap.objs.size) → IsPair h' TO x y → N1 (k1 + 1) h' → N2 (k2 + 1) h' → IsPair h' s.heap.objs.size x y → h'.objs.size = s.heap.objs.size + 1 →
      (∀ c o, c ≠ z → c ≠ TO → c ≠ i1 → c ≠ i2 → s.heap.get? c = some o → h'.get? c = some o) → Q (.ref s.heap.objs.size) { s with heap := h' }) :
    wpAny (model prog w) A (Builtin.«zip.__next__» ⟨[.ref z], []⟩) (fun fin s' => ∃ v, fin = .done (.ret v) ∧ Q v s') E s := by
  show wpAny _ _ (field (.ref z) 2 >>= _) _ _ _
  refine wpAny_bind (wpAny_field hz rfl (x := .bool false) rfl ?_)
  show wpAny _ _ (field (.ref z) 3 >>= _) _ _ _
  refine wpAny_bind (wpAny_field hz rfl (x := .ref TI) rfl ?_)
  refine wpAny_bind (wpAny_seqItems hTI rfl ?_)
  show wpAny _ _ (Builtin.SmallTypes.ownedTupleIsFree (.ref z) >>= _) _ _ _
  refine wpAny_bind ?_
  unfold Builtin.SmallTypes.ownedTupleIsFree
  refine wpAny_bind (wpAny_field hz rfl (x := .none) rfl (wpAny_pure ?_))
  simp only [if_true]
  refine wpAny_bind (wpAny_rule ?_)
  refine wpAny_bind (wpAny_field hz rfl (x := .ref TO) rfl ?_)
  refine wpAny_bind (wpAny_setField_rec hz (by simp) fun h₁ hz₁ hs₁ => ?_)
  replace hz₁ : IsZip h₁ z TI TO .ellipsis := hz₁
  refine wpAny_bind ?_
  simp only [List.zipIdx_cons, List.zipIdx_nil, List.forIn_cons, List.forIn_nil]
  refine wpAny_bind (wpAny_bind (wpAny_onRaise ?_))
  show wpAny _ _ (Builtin.SmallTypes.nextOf (.ref i1) >>= _) _ _ _
  refine wpAny_bind (S1.item _ _ _ _ _ _ _ (S1.keepN _ _ _ h1 fun o e => hs₁.extBut _ _ D.i1z e) (S1.keepD _ _ _ hl1 fun c hc o e => hs₁.extBut _ _ (D.k1 c hc).1 e) hx fun h₂ h1₂ hs₂ => wpAny_pure ?_)
  have hTO₂ : IsPair h₂ TO a b := hs₂.extBut _ _ D.TOi1 (hs₁.extBut _ _ D.TOz hTO)
  refine wpAny_bind (wpAny_seqItems hTO₂ rfl ?_)
  refine wpAny_bind (wpAny_updateSeq_pair hTO₂ fun h₃ hTO₃ hs₃ => ?_)
  replace hTO₃ : IsPair h₃ TO x b := hTO₃
  refine wpAny_bind (wpAny_letGo (wpAny_pure ?_))
  refine wpAny_bind (wpAny_bind (wpAny_onRaise ?_))
  show wpAny _ _ (Builtin.SmallTypes.nextOf (.ref i2) >>= _) _ _ _
  refine wpAny_bind (S2.item _ _ _ _ _ _ _ (S2.keepN _ _ _ h2 fun o e => hs₃.extBut _ _ D.TOi2.symm (hs₂.extBut _ _ D.i12.symm (hs₁.extBut _ _ D.i2z e)))
    (S2.keepD _ _ _ hl2 fun c hc o e => hs₃.extBut _ _ (D.k2 c hc).2.1 (hs₂.extBut _ _ (D.k2 c hc).2.2.1 (hs₁.extBut _ _ (D.k2 c hc).1 e))) hy fun h₄ h2₄ hs₄ => wpAny_pure ?_)
  have hTO₄ : IsPair h₄ TO x b := hs₄.extBut _ _ D.TOi2 hTO₃
  refine wpAny_bind (wpAny_seqItems hTO₄ rfl ?_)
  refine wpAny_bind (wpAny_updateSeq_pair hTO₄ fun h₅ hTO₅ hs₅ => ?_)
  replace hTO₅ : IsPair h₅ TO x y := hTO₅
  refine wpAny_bind (wpAny_letGo (wpAny_pure (wpAny_pure ?_)))
  refine wpAny_bind (wpAny_seqItems hTO₅ rfl ?_)
  refine wpAny_bind (wpAny_newTuple ?_)
  have hsz : h₅.objs.size = s.heap.objs.size := by rw [hs₅.1, hs₄.1, hs₃.1, hs₂.1, hs₁.1]
  have hz₅ : IsZip h₅ z TI TO .ellipsis := hs₅.extBut _ _ D.TOz.symm (hs₄.extBut _ _ D.i2z.symm (hs₃.extBut _ _ D.TOz.symm (hs₂.extBut _ _ D.i1z.symm hz₁)))
  have hk₅ : ∀ c o, c ≠ z → c ≠ TO → c ≠ i1 → c ≠ i2 → s.heap.get? c = some o → h₅.get? c = some o := fun c o c1 c2 c3 c4 e =>
    hs₅.extBut _ _ c2 (hs₄.extBut _ _ c4 (hs₃.extBut _ _ c2 (hs₂.extBut _ _ c3 (hs₁.extBut _ _ c1 e))))
  have h1₅ : N1 (k1 + 1) h₅ := S1.keepN _ _ _ h1₂ fun o e => hs₅.extBut _ _ D.TOi1.symm (hs₄.extBut _ _ D.i12 (hs₃.extBut _ _ D.TOi1.symm e))
  have h2₅ : N2 (k2 + 1) h₅ := S2.keepN _ _ _ h2₄ fun o e => hs₅.extBut _ _ D.TOi2.symm e
  have hzlt : z < h₅.objs.size := Heap.lt_size hz₅
  show wpAny _ _ (Builtin.SmallTypes.ownedTupleHandOut (.ref z) (.ref h₅.objs.size) >>= _) _ _ _
  refine wpAny_bind ?_
  unfold Builtin.SmallTypes.ownedTupleHandOut
  have hz₆ : IsZip (h₅.push { cls := .type "tuple", data := .seq #[x, y] }) z TI TO .ellipsis := Heap.get?_push_of_some _ hz₅
  refine wpAny_bind (wpAny_setField_rec hz₆ (by simp) fun h₇ hz₇ hs₇ => ?_)
  replace hz₇ : IsZip h₇ z TI TO (rawInt h₅.objs.size) := hz₇
  refine wpAny_setField_rec hz₇ (by simp) fun h₈ hz₈ hs₈ => ?_
  replace hz₈ : IsZip h₈ z TI TO (rawInt h₅.objs.size) := hz₈
  have up : ∀ c o, c ≠ z → h₅.get? c = some o → h₈.get? c = some o := fun c o c1 e => hs₈.extBut _ _ c1 (hs₇.extBut _ _ c1 (Heap.get?_push_of_some _ e))
  have hT₈ : IsPair h₈ h₅.objs.size x y := hs₈.extBut _ _ (Nat.ne_of_gt hzlt) (hs₇.extBut _ _ (Nat.ne_of_gt hzlt) (Heap.get?_push_size _ rfl))
  have hz8 : h₈.objs.size = h₅.objs.size + 1 := by rw [hs₈.1, hs₇.1, Heap.size_push]
  rw [hsz] at hz₈ hT₈ hz8
  refine wpAny_pure ⟨_, rfl, ?_⟩
  show Q (.ref h₅.objs.size) _
  rw [hsz]
  exact hQ h₈ hz₈ (up _ _ D.TOz hTO₅) (S1.keepN _ _ _ h1₅ fun o e => up _ o D.i1z e) (S2.keepN _ _ _ h2₅ fun o e => up _ o D.i2z e) hT₈ hz8 fun c o c1 c2 c3 c4 e => up c o c1 (hk₅ c o c1 c2 c3 c4 e)
theorem next_end {z TI TO i1 i2 : Addr} {k1 k2 : Nat} {xs ys : List Value} {a b : Value} {Q : Fin → Shared → Prop} (hh : A.handled = none) (D : Apart z TI TO i1 i2 ks1 ks2) (S1 : Src prog w i1 ks1 N1 D1) (S2 : Src prog w i2 ks2 N2 D2)
    (hz : IsZip s.heap z TI TO .none) (hTI : IsPair s.heap TI (.ref i1) (.ref i2)) (hTO : IsPair s.heap TO a b)
    (h1 : N1 k1 s.heap) (h2 : N2 k2 s.heap) (hl1 : D1 xs s.heap) (hl2 : D2 ys s.heap) (hend : xs[k1]? = none ∨ ys[k2]? = none)
    (hE : ∀ h' e, (∀ c o, c ≠ z → c ≠ TO → c ≠ i1 → c ≠ i2 → s.heap.get? c = some o → h'.get? c = some o) → (∃ o, h'.get? e = some o ∧ o.cls = .type "StopIteration") → E (.ref e) { s with heap := h' }) :
    wpAny (model prog w) A (Builtin.«zip.__next__» ⟨[.ref z], []⟩) Q E s := by
  show wpAny _ _ (field (.ref z) 2 >>= _) _ _ _
  refine wpAny_bind (wpAny_field hz rfl (x := .bool false) rfl ?_)
  show wpAny _ _ (field (.ref z) 3 >>= _) _ _ _
  refine wpAny_bind (wpAny_field hz rfl (x := .ref TI) rfl ?_)
  refine wpAny_bind (wpAny_seqItems hTI rfl ?_)
  show wpAny _ _ (Builtin.SmallTypes.ownedTupleIsFree (.ref z) >>= _) _ _ _
  refine wpAny_bind ?_
  unfold Builtin.SmallTypes.ownedTupleIsFree
  refine wpAny_bind (wpAny_field hz rfl (x := .none) rfl (wpAny_pure ?_))
  simp only [if_true]
  refine wpAny_bind (wpAny_rule ?_)
  refine wpAny_bind (wpAny_field hz rfl (x := .ref TO) rfl ?_)
  refine wpAny_bind (wpAny_setField_rec hz (by simp) fun h₁ hz₁ hs₁ => ?_)
  replace hz₁ : IsZip h₁ z TI TO .ellipsis := hz₁
  refine wpAny_bind ?_
  simp only [List.zipIdx_cons, List.zipIdx_nil, List.forIn_cons, List.forIn_nil]
  refine wpAny_bind (wpAny_bind (wpAny_onRaise ?_))
  show wpAny _ _ (Builtin.SmallTypes.nextOf (.ref i1) >>= _) _ _ _
  have n1 := S1.keepN _ _ _ h1 fun o e => hs₁.extBut _ _ D.i1z e
  have d1 := S1.keepD _ _ _ hl1 fun c hc o e => hs₁.extBut _ _ (D.k1 c hc).1 e
  cases hx : xs[k1]? with
  | none =>
    refine wpAny_bind (S1.done _ _ _ _ _ _ hh n1 d1 hx fun h₂ e hs₂ he => ?_)
    obtain ⟨oe, hoe, hce⟩ := he
    have hz₂ : IsZip h₂ z TI TO .ellipsis := hs₂ _ _ D.i1z.symm hz₁
    have hez : e ≠ z := fun x => by subst x; rw [hz₂] at hoe; cases hoe; simp at hce
    refine wpAny_setField_rec hz₂ (by simp) fun h₃ _ hs₃ => hE h₃ e (fun c o c1 _ c3 _ x => hs₃.extBut _ _ c1 (hs₂ _ _ c3 (hs₁.extBut _ _ c1 x))) ⟨oe, hs₃.extBut _ _ hez hoe, hce⟩
  | some x =>
    have hy : ys[k2]? = none := by rcases hend with h | h; rw [hx] at h; cases h; exact h
    refine wpAny_bind (S1.item _ _ _ _ _ _ _ n1 d1 hx fun h₂ h1₂ hs₂ => wpAny_pure ?_)
    have hTO₂ : IsPair h₂ TO a b := hs₂.extBut _ _ D.TOi1 (hs₁.extBut _ _ D.TOz hTO)
    refine wpAny_bind (wpAny_seqItems hTO₂ rfl ?_)
    refine wpAny_bind (wpAny_updateSeq_pair hTO₂ fun h₃ hTO₃ hs₃ => ?_)
    refine wpAny_bind (wpAny_letGo (wpAny_pure ?_))
    refine wpAny_bind (wpAny_bind (wpAny_onRaise ?_))
    show wpAny _ _ (Builtin.SmallTypes.nextOf (.ref i2) >>= _) _ _ _
    refine wpAny_bind (S2.done _ _ _ _ _ _ hh (S2.keepN _ _ _ h2 fun o e => hs₃.extBut _ _ D.TOi2.symm (hs₂.extBut _ _ D.i12.symm (hs₁.extBut _ _ D.i2z e)))
      (S2.keepD _ _ _ hl2 fun c hc o e => hs₃.extBut _ _ (D.k2 c hc).2.1 (hs₂.extBut _ _ (D.k2 c hc).2.2.1 (hs₁.extBut _ _ (D.k2 c hc).1 e))) hy fun h₄ e hs₄ he => ?_)
    obtain ⟨oe, hoe, hce⟩ := he
    have hz₄ : IsZip h₄ z TI TO .ellipsis := hs₄ _ _ D.i2z.symm (hs₃.extBut _ _ D.TOz.symm (hs₂.extBut _ _ D.i1z.symm hz₁))
    have hez : e ≠ z := fun x => by subst x; rw [hz₄] at hoe; cases hoe; simp at hce
    refine wpAny_setField_rec hz₄ (by simp) fun h₅ _ hs₅ => hE h₅ e (fun c o c1 c2 c3 c4 x => hs₅.extBut _ _ c1 (hs₄ _ _ c4 (hs₃.extBut _ _ c2 (hs₂.extBut _ _ c3 (hs₁.extBut _ _ c1 x))))) ⟨oe, hs₅.extBut _ _ hez hoe, hce⟩
theorem py_item {z TI TO i1 i2 : Addr} {k1 k2 : Nat} {xs ys : List Value} {x y a b : Value} {Q : Option Value → Shared → Prop} (D : Apart z TI TO i1 i2 ks1 ks2) (S1 : Src prog w i1 ks1 N1 D1) (S2 : Src prog w i2 ks2 N2 D2)
    (hz : IsZip s.heap z TI TO .none) (hTI : IsPair s.heap TI (.ref i1) (.ref i2)) (hTO : IsPair s.heap TO a b)
    (h1 : N1 k1 s.heap) (h2 : N2 k2 s.heap) (hl1 : D1 xs s.heap) (hl2 : D2 ys s.heap) (hx : xs[k1]? = some x) (hy : ys[k2]? = some y)
    (hQ : ∀ h', IsZip h' z TI TO (rawInt s.heap.objs.size) → IsPair h' TO x y → N1 (k1 + 1) h' → N2 (k2 + 1) h' → IsPair h' s.heap.objs.size x y → h'.objs.size = s.heap.objs.size + 1 →
      (∀ c o, c ≠ z → c ≠ TO → c ≠ i1 → c ≠ i2 → s.heap.get? c = some o → h'.get? c = some o) → Q (some (.ref s.heap.objs.size)) { s with heap := h' }) :
    wpAny (model prog w) A (pyNext (.ref z)) Q E s := by
  have hT : s.TypeIs (.ref z) "zip" := ⟨_, hz, rfl⟩
  unfold pyNext
  exact wpAny_bind (wpAny_attempt (wpAny_callSpecial?_slot (name := Str.ofString "__next__") hT F.slot_zip_next
    (wpAny_call_entry F.slot_zip_next hT F.entry_zip_next
      (next_item D S1 S2 hz hTI hTO h1 h2 hl1 hl2 hx hy fun h' a1 a2 a3 a4 a5 a6 a7 => wpAny_pure (hQ h' a1 a2 a3 a4 a5 a6 a7)) (F.args_zip_next_1 _))))
theorem py_end {z TI TO i1 i2 : Addr} {k1 k2 : Nat} {xs ys : List Value} {a b : Value} {Q : Option Value → Shared → Prop} (hh : A.handled = none) (D : Apart z TI TO i1 i2 ks1 ks2) (S1 : Src prog w i1 ks1 N1 D1) (S2 : Src prog w i2 ks2 N2 D2)
    (hz : IsZip s.heap z TI TO .none) (hTI : IsPair s.heap TI (.ref i1) (.ref i2)) (hTO : IsPair s.heap TO a b)
    (h1 : N1 k1 s.heap) (h2 : N2 k2 s.heap) (hl1 : D1 xs s.heap) (hl2 : D2 ys s.heap) (hend : xs[k1]? = none ∨ ys[k2]? = none)
    (hQ : ∀ h', (∀ c o, c ≠ z → c ≠ TO → c ≠ i1 → c ≠ i2 → s.heap.get? c = some o → h'.get? c = some o) → Q none { s with heap := h' }) : wpAny (model prog w) A (pyNext (.ref z)) Q E s := by
  have hT : s.TypeIs (.ref z) "zip" := ⟨_, hz, rfl⟩
  unfold pyNext
  refine wpAny_bind (wpAny_attempt (wpAny_callSpecial?_slot (name := Str.ofString "__next__") hT F.slot_zip_next
    (wpAny_call_entry F.slot_zip_next hT F.entry_zip_next (next_end hh D S1 S2 hz hTI hTO h1 h2 hl1 hl2 hend fun h' e hk he => ?_) (F.args_zip_next_1 _))))
  obtain ⟨o, ho, hc⟩ := he
  refine wpAny_bind (wpAny_isInstance (T := "StopIteration") (b := true) ⟨o, ho, hc⟩ isSubtype_stop ?_)
  exact wpAny_pure (hQ _ hk)
end
/-- pyIter of v lays one object -/
def Lays (P : Program) (w : World) (h : Heap) (v : Value) (o : Obj) : Prop := ∀ (A : Around) (E Q : Value → Shared → Prop) (s : Shared), s.heap = h → Q (.ref h.objs.size) { s with heap := h.push o } → wpAny (model P w) A (pyIter v) Q E s
abbrev zH2 (h : Heap) (o1 o2 : Obj) : Heap := (h.push o1).push o2
abbrev zH3 (h : Heap) (o1 o2 : Obj) : Heap := (zH2 h o1 o2).push { cls := .type "tuple", data := .seq #[.ref h.objs.size, .ref (h.push o1).objs.size] }
abbrev zH4 (h : Heap) (o1 o2 : Obj) : Heap := (zH3 h o1 o2).push { cls := .type "tuple", data := .seq #[.none, .none] }
abbrev zH5 (h : Heap) (o1 o2 : Obj) : Heap := (zH4 h o1 o2).push { cls := .type "zip", data := .fields #[.none, .bool false, .bool false, .ref (zH2 h o1 o2).objs.size, .ref (zH3 h o1 o2).objs.size] }
theorem meets_new {prog : Program} {w : World} (a1 a2 : Addr) (o1 o2 : Obj) :
    MeetsIn prog w (Builtin.«zip.__new__» ⟨[.type "zip", .ref a1, .ref a2], []⟩) (fun _ R s => Lays prog w s.heap (.ref a1) o1 ∧ Lays prog w (s.heap.push o1) (.ref a2) o2 ∧
      R (.ok (.ret (.ref (zH4 s.heap o1 o2).objs.size))) { s with heap := zH5 s.heap o1 o2 }) :=
  .of_wp fun A R s h => by
    obtain ⟨hp, g, d, tk, os⟩ := s; obtain ⟨hl1, hl2, h⟩ := h
    have hsub := sub_zip
    have hL1 : ∀ {A : Around} {E Q : Value → Shared → Prop}, Q (.ref hp.objs.size) ⟨hp.push o1, g, d, tk, os⟩ → wpAny (model prog w) A (pyIter (.ref a1)) Q E ⟨hp, g, d, tk, os⟩ := fun {A E Q} q => hl1 A E Q ⟨hp, g, d, tk, os⟩ rfl q
    have hL2 : ∀ {A : Around} {E Q : Value → Shared → Prop}, Q (.ref (hp.push o1).objs.size) ⟨(hp.push o1).push o2, g, d, tk, os⟩ → wpAny (model prog w) A (pyIter (.ref a2)) Q E ⟨hp.push o1, g, d, tk, os⟩ := fun {A E Q} q => hl2 A E Q ⟨hp.push o1, g, d, tk, os⟩ rfl q
    wp_walk using hL1, hL2
    exact ⟨_, rfl, h⟩
end L2.Zg

namespace L2.Zg
open PySem PySem.Spec PyProof.Rows L2
open PySem.Sem (wp)
section
variable {prog : Program} {w : World} {A : Around} {E : Value → Shared → Prop} {s : Shared}
theorem call_zip2 {a1 a2 : Addr} {o1 o2 : Obj} {Q : Value → Shared → Prop} (hl1 : Lays prog w s.heap (.ref a1) o1) (hl2 : Lays prog w (s.heap.push o1) (.ref a2) o2) (f1 : o1.isFreed = false) (f2 : o2.isFreed = false)
    (h : ∀ h', IsZip h' (s.heap.objs.size + 4) (s.heap.objs.size + 2) (s.heap.objs.size + 3) .none → IsPair h' (s.heap.objs.size + 2) (.ref s.heap.objs.size) (.ref (s.heap.objs.size + 1)) →
      IsPair h' (s.heap.objs.size + 3) .none .none → h'.get? s.heap.objs.size = some o1 → h'.get? (s.heap.objs.size + 1) = some o2 → h'.objs.size = s.heap.objs.size + 5 →
      (∀ c o, s.heap.get? c = some o → h'.get? c = some o) → Q (.ref (s.heap.objs.size + 4)) { s with heap := h' }) :
    wpAny (model prog w) A (call (.type "zip") [.ref a1, .ref a2]) Q E s := by
  refine callType_newIn F.called_zip (by decide) (F.typeCall_zip_2 _ _) (F.newCall_zip_2 _ _) (fun obj => F.args_object_init_3 obj _ _) F.entry_zip_new
    (meets_new a1 a2 o1 o2) ⟨hl1, hl2, ?_⟩
  have z1 : (s.heap.push o1).objs.size = s.heap.objs.size + 1 := Heap.size_push ..
  have z2 : (zH2 s.heap o1 o2).objs.size = s.heap.objs.size + 2 := by rw [Heap.size_push, z1]
  have z3 : (zH3 s.heap o1 o2).objs.size = s.heap.objs.size + 3 := by rw [Heap.size_push, z2]
  have z4 : (zH4 s.heap o1 o2).objs.size = s.heap.objs.size + 4 := by rw [Heap.size_push, z3]
  have z5 : (zH5 s.heap o1 o2).objs.size = s.heap.objs.size + 5 := by rw [Heap.size_push, z4]
  have g5 : (zH5 s.heap o1 o2).get? (zH4 s.heap o1 o2).objs.size = some _ := Heap.get?_push_size _ rfl
  have g4 : (zH5 s.heap o1 o2).get? (zH3 s.heap o1 o2).objs.size = some _ := Heap.get?_push_of_some _ (Heap.get?_push_size _ rfl)
  have g3 : (zH5 s.heap o1 o2).get? (zH2 s.heap o1 o2).objs.size = some _ := Heap.get?_push_of_some _ (Heap.get?_push_of_some _ (Heap.get?_push_size _ rfl))
  have g2 : (zH5 s.heap o1 o2).get? (s.heap.push o1).objs.size = some _ := Heap.get?_push_of_some _ (Heap.get?_push_of_some _ (Heap.get?_push_of_some _ (Heap.get?_push_size _ f2)))
  have g1 : (zH5 s.heap o1 o2).get? s.heap.objs.size = some _ := Heap.get?_push_of_some _ (Heap.get?_push_of_some _ (Heap.get?_push_of_some _ (Heap.get?_push_of_some _ (Heap.get?_push_size _ f1))))
  show _ ∧ _
  rw [z2, z3, z4] at g5
  rw [z1, z2] at g3
  rw [z3] at g4
  rw [z1] at g2
  rw [z4]
  exact ⟨⟨_, g5, rfl⟩, h _ g5 g3 g4 g1 g2 z5 fun c o x =>
    Heap.get?_push_of_some _ (Heap.get?_push_of_some _ (Heap.get?_push_of_some _ (Heap.get?_push_of_some _ (Heap.get?_push_of_some _ x))))⟩
end
/-- what a source walks, as the tracked heap tells it -/
structure VSrc (P : Program) (w : World) (K : PySem.W.Frag) (it : Addr) (ks : List Addr) (N : Nat → Heap → Prop) (Dt : List Value → Heap → Prop) (S : Hp → List V → Prop) : Prop where
  src : Src P w it ks N Dt
  sem : ∀ (X : Cx), X.prog = P → X.w = w → X.K = K → ∀ (pins : List (Addr × Obj)) (σ : L2.St) (H : Hp) (s : Shared) (xs : List V), Inv X pins σ H s → S H xs → ∃ us, Vals xs us ∧ Dt us s.heap
  inj : ∀ (X : Cx), X.prog = P → X.w = w → X.K = K → ∀ (pins : List (Addr × Obj)) (σ : L2.St) (H : Hp) (s : Shared) (xs ys : List V), Inv X pins σ H s → S H xs → S H ys → xs = ys
def Itz2 (S1 S2 : Hp → List V → Prop) : It :=
  ⟨fun i H => ∃ (xs ys : List V) (x y : V), S1 H xs ∧ S2 H ys ∧ xs[i]? = some x ∧ ys[i]? = some y,
    fun i H v H' => ∃ T x y, v = .ref T ∧ H T = none ∧ H' = upd H T (.tup [x, y]) ∧ (∀ xs, S1 H xs → xs[i]? = some x) ∧ ∀ ys, S2 H ys → ys[i]? = some y,
    fun i H => ∃ xs ys : List V, S1 H xs ∧ S2 H ys ∧ (xs.length ≤ i ∨ ys.length ≤ i)⟩
theorem turn2 {P : Program} {w : World} {K : PySem.W.Frag} {elts : List Expr} {kk : Nat} {tpos : Pos} {z TI TO i1 i2 : Addr} {ks1 ks2 : List Addr} {N1 N2 : Nat → Heap → Prop} {D1 D2 : List Value → Heap → Prop} {S1 S2 : Hp → List V → Prop}
    (D : Apart z TI TO i1 i2 ks1 ks2) (V1 : VSrc P w K i1 ks1 N1 D1 S1) (V2 : VSrc P w K i2 ks2 N2 D2 S2) :
    Turn P w K (.Tuple elts kk tpos) (Itz2 S1 S2) [z, TI, TO, i1, i2] z (fun i h => IsZip h z TI TO .none ∧ IsPair h TI (.ref i1) (.ref i2) ∧ (∃ x y, IsPair h TO x y) ∧ N1 i h ∧ N2 i h) where
  mem := by simp
  obj := fun i h st c hc => by
    obtain ⟨hz, hTI, ⟨x, y, hTO⟩, n1, n2⟩ := st
    have e' : c = z ∨ c = TI ∨ c = TO ∨ c = i1 ∨ c = i2 := by simpa using hc
    rcases e' with q | q | q | q | q
    · rw [q]; exact ⟨_, hz, fun v q => nomatch q⟩
    · rw [q]; exact ⟨_, hTI, fun v q => nomatch q⟩
    · rw [q]; exact ⟨_, hTO, fun v q => nomatch q⟩
    · rw [q]; exact V1.src.obj _ _ n1
    · rw [q]; exact V2.src.obj _ _ n2
  keep := fun i h h' st k => by
    obtain ⟨hz, hTI, ⟨x, y, hTO⟩, h1, h2⟩ := st
    exact ⟨k z (by simp) _ hz, k TI (by simp) _ hTI, ⟨x, y, k TO (by simp) _ hTO⟩, V1.src.keepN _ _ _ h1 fun o q => k i1 (by simp) o q, V2.src.keepN _ _ _ h2 fun o q => k i2 (by simp) o q⟩
  item := by
    intro X hP hw hK hc i pins s σ H E I hf st hg
    subst hP hw hK
    obtain ⟨hz, hTI, ⟨x0, y0, hTO⟩, h1, h2⟩ := st
    obtain ⟨xs, ys, x, y, hqx, hqy, hx, hy⟩ := hg
    obtain ⟨us, rv, p⟩ := V1.sem X rfl rfl rfl _ _ _ _ _ I hqx
    obtain ⟨us2, rv2, p2⟩ := V2.sem X rfl rfl rfl _ _ _ _ _ I hqy
    obtain ⟨u, hu, ru⟩ := rv.get hx
    obtain ⟨u2, hu2, ru2⟩ := rv2.get hy
    have hzl : z < s.heap.objs.size := Heap.lt_size hz
    obtain ⟨b1, hb1, _⟩ := V1.src.obj _ _ h1
    obtain ⟨b2, hb2, _⟩ := V2.src.obj _ _ h2
    refine py_item D V1.src V2.src hz hTI hTO h1 h2 p p2 hu hu2 fun h' z' TO' h1' h2' hT hsz hk => ?_
    refine ⟨_, rfl, wpAny_letOwnedTupleGo_zip (s := { s with heap := h' }) z' fun h'' z'' sb => ?_⟩
    have hT2 : h''.get? s.heap.objs.size = some { cls := .type "tuple", data := .seq #[u, u2] } := (sb.2 _ (Nat.ne_of_gt hzl)).trans hT
    have new : ObjOk X.prog X.w (upd H s.heap.objs.size (.tup [x, y])) h'' s.heap.objs.size (.tup [x, y]) :=
      ⟨by show 2 ≤ sizeLine; decide, [u, u2], .cons ru (.cons ru2 .nil), ⟨_, hT2, rfl, _, rfl⟩⟩
    have I1 : Inv X pins σ (upd H s.heap.objs.size (.tup [x, y])) { s with heap := h'' } :=
      I.turnedNew (t' := s.toks) (ch := [z, TI, TO, i1, i2]) (fun c o hb q => (sb.2 c (fun q' => hb (by simp [q']))).trans (hk c o (fun q' => hb (by simp [q'])) (fun q' => hb (by simp [q'])) (fun q' => hb (by simp [q'])) (fun q' => hb (by simp [q'])) q)) hf (Nat.le_refl _) new
    refine ⟨.ref s.heap.objs.size, _, I1, rfl, ⟨_, x, y, rfl, I.hok.fresh (Nat.le_refl _), rfl, fun l hl => by rw [V1.inj X rfl rfl rfl _ _ _ _ _ _ I hl hqx]; exact hx, fun l hl => by rw [V2.inj X rfl rfl rfl _ _ _ _ _ _ I hl hqy]; exact hy⟩, ⟨z'', ?_, ⟨u, u2, ?_⟩, ?_, ?_⟩, fun c hcm => ?_⟩
    · exact (sb.2 _ D.TIz).trans (hk _ _ D.TIz D.TITO D.TIi1 D.TIi2 hTI)
    · exact (sb.2 _ D.TOz).trans TO'
    · exact V1.src.keepN _ _ _ h1' fun o q => (sb.2 _ D.i1z).trans q
    · exact V2.src.keepN _ _ _ h2' fun o q => (sb.2 _ D.i2z).trans q
    · have hlt : c < s.heap.objs.size := by
        have e' : c = z ∨ c = TI ∨ c = TO ∨ c = i1 ∨ c = i2 := by simpa using hcm
        rcases e' with q | q | q | q | q
        · rw [q]; exact hzl
        · rw [q]; exact Heap.lt_size hTI
        · rw [q]; exact Heap.lt_size hTO
        · rw [q]; exact Heap.lt_size hb1
        · rw [q]; exact Heap.lt_size hb2
      rw [upd_ne (Nat.ne_of_lt hlt)]
      exact (hf c hcm).1
  done := by
    intro X hP hw hK hc i pins s σ H E I hf st hg
    subst hP hw hK
    obtain ⟨hz, hTI, ⟨x0, y0, hTO⟩, h1, h2⟩ := st
    obtain ⟨xs, ys, hqx, hqy, hend⟩ := hg
    obtain ⟨us, rv, p⟩ := V1.sem X rfl rfl rfl _ _ _ _ _ I hqx
    obtain ⟨us2, rv2, p2⟩ := V2.sem X rfl rfl rfl _ _ _ _ _ I hqy
    have l1 := rv.length
    have l2 := rv2.length
    have he : us[i]? = none ∨ us2[i]? = none := by
      rcases hend with q | q
      · exact .inl (List.getElem?_eq_none (by omega))
      · exact .inr (List.getElem?_eq_none (by omega))
    exact py_end (I.ok.hd hc) D V1.src V2.src hz hTI hTO h1 h2 p p2 he fun h' hk => ⟨rfl, I.turnedL (t' := s.toks) (ch := [z, TI, TO, i1, i2]) (fun c o hb q =>
      hk c o (fun q' => hb (by simp [q'])) (fun q' => hb (by simp [q'])) (fun q' => hb (by simp [q'])) (fun q' => hb (by simp [q'])) q) hf⟩
  self := fun A i s Q E st h => wpAny_pyIter_zip st.1 h
theorem vs_lst {P : Program} {w : World} {K : PySem.W.Frag} {it l : Addr} : VSrc P w K it [l] (fun k h => h.IsListIter it l k) (fun xs h => h.IsList l xs.toArray) (fun H xs => SqL K H l xs) where
  src := src_lst
  sem := fun X hP hw hK pins σ H s xs I q => by
    subst hP hw hK
    obtain ⟨its, rv, p, _⟩ := I.list q
    exact ⟨its, rv, p.isList⟩
  inj := fun X hP hw hK pins σ H s xs ys I q q2 => by
    subst hP hw hK
    exact I.list_inj q q2
theorem vs_tup {P : Program} {w : World} {K : PySem.W.Frag} {it l : Addr} : VSrc P w K it [l] (fun k h => h.IsTupleIter it l k) (fun xs h => h.IsTuple l xs.toArray) (fun H xs => SqT K H l xs) where
  src := src_tup
  sem := fun X hP hw hK pins σ H s xs I q => by
    subst hP hw hK
    obtain ⟨its, rv, p, _⟩ := I.tuple q
    exact ⟨its, rv, p⟩
  inj := fun X hP hw hK pins σ H s xs ys I q q2 => by
    subst hP hw hK
    exact I.tuple_inj q q2
theorem kv_vals {κ : Type} {kvs : List (κ × V)} {vs : List (κ × Value)} (h : KV kvs vs) : Vals (kvs.map (·.2)) (vs.map (·.2)) := by
  unfold KV at h
  induction h with
  | nil => exact .nil
  | cons r t ih => exact .cons r.2 ih
theorem vs_vals {P : Program} {w : World} {K : PySem.W.Frag} {it d : Addr} {o : Obj} {es : Array DictEntry} {ep : Nat} (hod : o.data = .dict es ep) :
    VSrc P w K it [d] (fun k h => h.IsValIter it d k es.size ep) (fun xs h => ∃ kvs : List (Key × Value), h.DictAt (mixKind P w) d kvs ep ∧ kvs.length = es.size ∧ xs = kvs.map (·.2)) (fun H xs => ∃ kvs, H d = some (.frz o (.dK kvs)) ∧ xs = kvs.map (·.2)) where
  src := src_vals
  sem := fun X hP hw hK pins σ H s xs I q => by
    subst hP hw hK
    obtain ⟨kvs, q, rfl⟩ := q
    obtain ⟨hs, hgd, hx, es', ep', vs, hdt, hsz, kv, hm⟩ := I.frzK q
    rw [hod] at hdt
    cases hdt
    exact ⟨vs.map (·.2), kv_vals kv, vs, hm, by rw [hsz]; exact (Paired.length kv).symm, rfl⟩
  inj := fun X hP hw hK pins σ H s xs ys I q q2 => by
    obtain ⟨kvs, q, rfl⟩ := q
    obtain ⟨kvs2, q2, rfl⟩ := q2
    rw [q] at q2
    cases q2
    rfl
theorem lays_lst {P : Program} {w : World} {h : Heap} {l : Addr} {xs : Array Value} (hl : h.IsList l xs) : Lays P w h (.ref l) { cls := .type "list_iterator", data := .fields #[.ref l, .int 0 0] } := fun A E Q s e q => by
  subst e
  exact wpAny_pyIter_list hl q
theorem lays_tup {P : Program} {w : World} {h : Heap} {l : Addr} {xs : Array Value} (hl : h.IsTuple l xs) : Lays P w h (.ref l) { cls := .type "tuple_iterator", data := .fields #[.ref l, .int 0 0] } := fun A E Q s e q => by
  subst e
  exact wpAny_pyIter_tuple hl q
theorem lays_vals {P : Program} {w : World} {h : Heap} {v d : Addr} {kvs : List (Key × Value)} {ep n : Nat} (hv : h.IsValuesView v d) (hm : h.DictAt (mixKind P w) d kvs ep) (hn : kvs.length = n) :
    Lays P w h (.ref v) { cls := .type "dict_valueiterator", data := .fields #[.ref d, .int 0 0, .int n 0, .int ep 0] } := fun A E Q s e q => by
  subst e
  subst hn
  exact wpAny_pyIter_values hv hm q
/-- zip(d.values(), list or tuple), d known as it stands -/
def iZipV (K : PySem.W.Frag) (td tb : TE) : TI := fun σ H R => td σ H fun x H1 => ∃ d o kvs, x = .ref d ∧ H1 d = some (.frz o (.dK kvs)) ∧ tb σ H1 fun y H2 => ∃ b ys, y = .ref b ∧ H2 d = some (.frz o (.dK kvs)) ∧
  ((SqL K H2 b ys ∧ R (Itz2 (fun H xs => ∃ kvs, H d = some (.frz o (.dK kvs)) ∧ xs = kvs.map (·.2)) (fun H xs => SqL K H b xs)) H2) ∨
   (SqT K H2 b ys ∧ R (Itz2 (fun H xs => ∃ kvs, H d = some (.frz o (.dK kvs)) ∧ xs = kvs.map (·.2)) (fun H xs => SqT K H b xs)) H2))
theorem pin_new {X : Cx} {pins : List (Addr × Obj)} {σ : L2.St} {H : Hp} {s : Shared} {o : Obj} {h' : Heap} {a : Addr} {t' : Nat} (I : Inv X pins σ H s) (k : ∀ b u, s.heap.get? b = some u → h'.get? b = some u) (ha : s.heap.objs.size ≤ a) (ho : h'.get? a = some o) (hc : ∀ v, o.data ≠ .cell v) :
    Inv X ((a, o) :: pins) σ H { s with heap := h', toks := t' } := by
  have J := I.kept (t' := t') k
  refine J.pins_of fun p hp => ?_
  cases hp with
  | head => exact ⟨ho, I.hok.fresh ha, Nat.ne_of_gt (Nat.lt_of_lt_of_le I.lt ha), I.nofs ha, hc⟩
  | tail _ h => exact J.pin p (List.mem_append_right _ h)
theorem pin_off {X : Cx} {pins : List (Addr × Obj)} {σ : L2.St} {H : Hp} {s : Shared} {p : Addr × Obj} (I : Inv X (p :: pins) σ H s) : Inv X pins σ H s ∧ s.heap.get? p.1 = some p.2 :=
  ⟨I.pins_of fun r hr => I.pin r (List.mem_append_right _ (List.mem_cons_of_mem _ hr)), (I.pin p (List.mem_append_right _ List.mem_cons_self)).1⟩
def viewOf (d : Addr) : Obj := { cls := .type "dict_values", data := .fields #[.ref d] }
theorem pi_zipV {X : Cx} {e e2 : Expr} {td tb : TE} {p pos tpos apos cpos : Pos} {elts : List Expr} {kk : Nat} (hg : Gl X "zip") (hm : X.mg "zip" = none) (ha : PE X e td) (hb : PE X e2 tb)
    (hbase : attributeBase e "values" X.env (eval e X.env) = eval e X.env := by rfl) (hline : (apos.endLine == cpos.line) = true := by rfl)
    (hs2 : starEach [e2] X.env = (false, eval e2 X.env) :: starEach [] X.env := by rfl)
    (hs : starEach [.Call (.Attribute e "values" apos) [] [] cpos, e2] X.env = (false, eval (.Call (.Attribute e "values" apos) [] [] cpos) X.env) :: starEach [e2] X.env := by rfl) (hpl : (backTo pos (starEach [e2] X.env)).any (·.1) = false := by rfl) :
    PI X (.Tuple elts kk tpos) (.Call (.Name "zip" p) [.Call (.Attribute e "values" apos) [] [] cpos, e2] [] pos) (iZipV X.K td tb) := by
  refine ⟨fun pins s σ H R I h => ?_⟩
  refine Call_ (ld_blt I hg hm PyProof.Rows.boot_zip (PyProof.Rows.callWith_type1 (PyProof.Rows.args_cons ?_ hs) hs hpl))
  refine wpAny_Call_method (T := "dict") (id := "dict.values") hbase rfl hline F.plainAttrs_dict F.slot_dict_values F.type_dict_values (thn (ha.run pins s σ H _ I h) fun u s1 ⟨x, H1, I1, rx, d, o, kvs, ex, hd, q⟩ => ?_)
  subst ex
  obtain rfl : u = Value.ref d := rx
  obtain ⟨hsm, hgd, hx, es, ep, vs, hdt, hsz, kv, hmm⟩ := I1.frzK hd
  refine ⟨hmm.dictOf.typeIs, hmm.dictOf.mapOf.noDict, ?_⟩
  let v := s1.heap.objs.size
  have I2 : Inv X ((v, viewOf d) :: pins) σ H1 { s1 with heap := s1.heap.push (viewOf d) } := pin_new (t' := s1.toks) I1 (fun b ob q => Heap.get?_push_of_some _ q) (Nat.le_refl _) (Heap.get?_push_size _ rfl) fun v z => nomatch z
  have fin : wpAny (model X.prog X.w) X.A (spliced (backTo pos (starEach [e2] X.env))) (fun vs s₂ => wpAny (model X.prog X.w) X.A (call (.type "zip") (Value.ref v :: vs)) (fun z s3 => wpAny (model X.prog X.w) X.A (pyIter z) (PIE X pins σ (.Tuple elts kk tpos) R) X.xe s3) X.xe s₂) X.xe { s1 with heap := s1.heap.push (viewOf d) } := by
    refine PyProof.Rows.args_cons (thn (hb.run _ _ σ H1 _ I2 q) fun u2 s2 ⟨y, H2, I3, ry, q2⟩ => PyProof.Rows.args_nil ?_) hs2
    obtain ⟨b, ys, rfl, hd2, q2⟩ := q2
    obtain rfl : u2 = Value.ref b := ry
    have hv : s2.heap.get? v = some (viewOf d) := (pin_off I3).2
    have J : Inv X pins σ H2 s2 := (pin_off I3).1
    obtain ⟨_, hgd2, _, es2, ep2, vs2, hdt2, hsz2, kv2, hmm2⟩ := J.frzK hd2
    rw [hdt] at hdt2
    cases hdt2
    have hn2 : vs2.length = es.size := by rw [hsz2]; exact (Paired.length kv2).symm
    have fresh5 : ∀ c, c ∈ [s2.heap.objs.size + 4, s2.heap.objs.size + 2, s2.heap.objs.size + 3, s2.heap.objs.size, s2.heap.objs.size + 1] → FpOk X pins H2 c := fun c hcm => by
      have e' : c = s2.heap.objs.size + 4 ∨ c = s2.heap.objs.size + 2 ∨ c = s2.heap.objs.size + 3 ∨ c = s2.heap.objs.size ∨ c = s2.heap.objs.size + 1 := by simpa using hcm
      have hle : s2.heap.objs.size ≤ c := by
        rcases e' with z | z | z | z | z
        · rw [z]; exact Nat.le_add_right _ _
        · rw [z]; exact Nat.le_add_right _ _
        · rw [z]; exact Nat.le_add_right _ _
        · rw [z]; exact Nat.le_refl _
        · rw [z]; exact Nat.le_add_right _ _
      exact J.fpOk hle (J.hok.fresh hle)
    have l1 := lays_vals (P := X.prog) (w := X.w) (h := s2.heap) (v := v) ⟨_, hv, rfl, rfl⟩ hmm2 hn2
    have kd : ∀ c ∈ [d], Nat.lt c s2.heap.objs.size := fun c hc => by rw [List.mem_singleton.mp hc]; exact Heap.lt_size hgd2
    rcases q2 with ⟨hqy, q⟩ | ⟨hqy, q⟩
    · obtain ⟨its2, rv2, p2, _⟩ := J.list hqy
      have kb : ∀ c ∈ [b], Nat.lt c s2.heap.objs.size := fun c hc => by rw [List.mem_singleton.mp hc]; exact p2.lt
      refine call_zip2 l1 (lays_lst (p2.isList.push _)) rfl rfl fun h' hz hTI hTO h1 h2 hsz hk => wpAny_pyIter_zip hz ?_
      have I4 : Inv X pins σ H2 { s2 with heap := h' } := J.kept (t' := s2.toks) hk
      exact ⟨s2.heap.objs.size + 4, [s2.heap.objs.size + 4, s2.heap.objs.size + 2, s2.heap.objs.size + 3, s2.heap.objs.size, s2.heap.objs.size + 1], _, _, H2, rfl, I4, turn2 (apart s2.heap.objs.size kd kb) (vs_vals hdt) vs_lst, ⟨hz, hTI, ⟨_, _, hTO⟩, ⟨_, h1, rfl, rfl⟩, ⟨_, h2, rfl, rfl⟩⟩, fresh5, q⟩
    · obtain ⟨its2, rv2, p2, _⟩ := J.tuple hqy
      obtain ⟨o2, ho2, _⟩ := id p2
      have kb : ∀ c ∈ [b], Nat.lt c s2.heap.objs.size := fun c hc => by rw [List.mem_singleton.mp hc]; exact Heap.lt_size ho2
      refine call_zip2 l1 (lays_tup (p2.push _)) rfl rfl fun h' hz hTI hTO h1 h2 hsz hk => wpAny_pyIter_zip hz ?_
      have I4 : Inv X pins σ H2 { s2 with heap := h' } := J.kept (t' := s2.toks) hk
      exact ⟨s2.heap.objs.size + 4, [s2.heap.objs.size + 4, s2.heap.objs.size + 2, s2.heap.objs.size + 3, s2.heap.objs.size, s2.heap.objs.size + 1], _, _, H2, rfl, I4, turn2 (apart s2.heap.objs.size kd kb) (vs_vals hdt) vs_tup, ⟨hz, hTI, ⟨_, _, hTO⟩, ⟨_, h1, rfl, rfl⟩, ⟨_, h2, rfl, rfl⟩⟩, fresh5, q⟩
  show wpAny _ _ (callWith cpos (.builtin "dict.values") [.ref d] [] []) _ X.xe s1
  exact method_meetsIn F.slot_dict_values F.entry_dict_values rfl (PySem.evalArgs_none ⟨rfl, hmm.dictOf.typeIs, F.args_dict_values_1 _, _, meets_dict_values (mixKind X.prog X.w) d hsm, ⟨vs, hmm.dictOf⟩, fin⟩)
end L2.Zg

namespace L2.Tr
open PySem PySem.Spec PyProof.Rows
/-! plain data: it stays as it is where only other things change -/
mutual
def plainD : D → Bool
  | .leaf _ => true
  | .seq _ ds => plainDs ds
  | .dct _ _ => false
  | .obj _ _ _ => false
  | .frz _ _ => false
def plainDs : List D → Bool
  | [] => true
  | d :: ds => plainD d && plainDs ds
end
/-- lists and tuples stay -/
def ExS (G G' : Hp) : Prop := ∀ a b us, G a = some (mkS b us) → G' a = some (mkS b us)
mutual
theorem Rep.plain {G G' : Hp} (e : ExS G G') : ∀ {d : D} {v : V}, plainD d = true → Rep G d v → Rep G' d v
  | .leaf x, v, _, h => by obtain ⟨rfl, l⟩ := h.un_lf; exact .lf l
  | .seq b ds, v, p, h => by
    obtain ⟨a, us, rfl, h1, h2, h3⟩ := h.un_sq
    exact .sq (e _ _ _ h1) h2 (Reps.plain e (by simpa [plainD] using p) h3)
  | .dct _ _, v, p, h => by simp [plainD] at p
  | .obj _ _ _, v, p, h => by simp [plainD] at p
  | .frz _ _, v, p, h => by simp [plainD] at p
theorem Reps.plain {G G' : Hp} (e : ExS G G') : ∀ {ds : List D} {us : List V}, plainDs ds = true → Reps G ds us → Reps G' ds us
  | [], us, _, h => by rw [h.un0]; exact .nil
  | d :: ds, us, p, h => by
    obtain ⟨u, r, rfl, q, t⟩ := h.un
    simp only [plainDs, Bool.and_eq_true] at p
    exact .cons (Rep.plain e p.1 q) (Reps.plain e p.2 t)
end
def cutSl : Sl → Sl
  | .pu d => if plainD d = true then .pu d else .un
  | _ => .un
def cutE (ρ : Env) : Env := ρ.map cutSl
theorem cut_get {ρ : Env} {i : Nat} {d : D} (h : (cutE ρ)[i]? = some (.pu d)) : ρ[i]? = some (.pu d) ∧ plainD d = true := by
  unfold cutE at h
  rw [List.getElem?_map] at h
  obtain ⟨s, h1, h2⟩ := Option.map_eq_some_iff.mp h
  cases s with
  | un => cases h2
  | ow _ => cases h2
  | pu d2 =>
    unfold cutSl at h2
    simp only at h2
    split at h2
    · rename_i hp; cases h2; exact ⟨h1, hp⟩
    · cases h2
theorem cut_ow {ρ : Env} {i : Nat} {d : D} (h : (cutE ρ)[i]? = some (.ow d)) : False := by
  unfold cutE at h
  rw [List.getElem?_map] at h
  obtain ⟨s, h1, h2⟩ := Option.map_eq_some_iff.mp h
  cases s with
  | un => cases h2
  | ow _ => cases h2
  | pu d2 =>
    unfold cutSl at h2
    simp only at h2
    split at h2 <;> cases h2
theorem EnvOk.cut {G H G' H' : Hp} {σ : St} {ρ : Env} (x : EnvOk G H σ ρ) (e : ExS G G') (gh : Ex G' H') : EnvOk G' H' σ (cutE ρ) :=
  ⟨gh, by unfold cutE; rw [List.length_map]; exact x.len, fun i d h => by
    obtain ⟨h1, h2⟩ := cut_get h
    obtain ⟨v, h3, h4⟩ := x.pu i d h1
    exact ⟨v, h3, Rep.plain e h2 h4⟩, fun i d h => (cut_ow h).elim, fun i j ds es p h => (cut_ow h).elim⟩
theorem mkS_ne {b : Bool} {us : List V} {kvs : List (Key × V)} : mkS b us ≠ .dK kvs := fun z => by cases b <;> cases z
section
variable {X : Cx} {K : PySem.W.Frag} {tg elt e2 : Expr} {tb : TE} {φ φb : Env → Option D} {θ : D → Env → Option Env} {pos : Pos}
theorem walk_v2 {S1 S2 : Hp → List V → Prop} {xs ys : List V} {n : Nat} (hn : n = min xs.length ys.length) : Walk (Zg.Itz2 S1 S2) n (fun H => S1 H xs ∧ S2 H ys) (YPair (fun i => xs[i]?) (fun i => ys[i]?)) := by
  subst hn
  refine ⟨fun i _ hi q => ?_, fun _ q => ⟨xs, ys, q.1, q.2, by omega⟩, fun i H v H' _ q y => ?_⟩
  · have h1 : i < xs.length := by omega
    have h2 : i < ys.length := by omega
    exact ⟨xs, ys, xs[i], ys[i], q.1, q.2, List.getElem?_eq_getElem _, List.getElem?_eq_getElem _⟩
  · obtain ⟨T, x, z, h1, h2, h3, h4, h5⟩ := y
    exact ⟨T, x, z, h1, h2, h3, h4 xs q.1, h5 ys q.2⟩
/-- what all([elt for tg in zip(self.f.values(), e2)]) tells -/
def allZipF (i : Nat) (C0 : Addr) (f : Str) (φb : Env → Option D) (vs : List Nat) (θ : D → Env → Option Env) (φ : Env → Option D) : Env → Option D := fun ρ => match ρ[i]? with
  | some (.pu o) => (fldD C0 f o).bind fun d => match d with
    | .dct ks xs => if plainDs xs = true then (φb (cutE ρ)).bind fun y => match y with
      | .seq _ ys => if (zipL xs ys).length ≤ Lim then (compF θ yesF φ (zipL xs ys) (wipeE (cutE ρ) vs)).bind fun zs => (boolsOf zs).map fun bs => bD (bs.all id) else none
      | _ => none
      else none
    | _ => none
  | _ => none
theorem pu_allZip {i : Nat} {C0 : Addr} {f : Str} {p p2 fpos tpos zpos apos cpos lpos : Pos} {elts : List Expr} {kk : Nat} {scope : Scope} {o : Expr} (own : List (Str × Nat)) (hc : X.calm = true) (hN : X.N.Nodup) (cl : Cls X.K C0) (n : NoAttr X.K C0 f)
    {g : Shared → Hp → Addr → List (Str × Addr) → List Addr → TG} {te : Shared → Hp → Addr → List (Str × Addr) → List Addr → TE}
    (hg : Gl X "all") (hm : X.mg "all" = none) (hv : bootBuiltins "all" = some (.builtin "all")) (hg2 : Gl X "zip") (hm2 : X.mg "zip" = none)
    (ho : PE X o (tVar i)) (hb : PuD X e2 tb φb)
    (ok : BlkOk X.N X.env.scope scope own)
    (ht : ∀ (s : Shared) (H : Hp) (C : Addr) (cl : List (Str × Addr)) (fp : List Addr), TgD (X.blk s H scope (compEnvC scope cl C X.env) fp) (.Tuple elts kk tpos) (g s H C cl fp) θ) (hw : ∀ s H C cl fp, TgW (g s H C cl fp) (own.map (·.2)))
    (he : ∀ (s : Shared) (H : Hp) (C : Addr) (cl : List (Str × Addr)) (fp : List Addr), PuD (X.blk s H scope (compEnvC scope cl C X.env) fp) elt (te s H C cl fp) φ)
    (hb1 : attributeBase o f X.env (eval o X.env) = eval o X.env := by rfl)
    (hbase : attributeBase (.Attribute o f fpos) "values" X.env (eval (.Attribute o f fpos) X.env) = eval (.Attribute o f fpos) X.env := by rfl) (hline : (apos.endLine == cpos.line) = true := by rfl)
    (hs2 : starEach [e2] X.env = (false, eval e2 X.env) :: starEach [] X.env := by rfl)
    (hs : starEach [.Call (.Attribute (.Attribute o f fpos) "values" apos) [] [] cpos, e2] X.env = (false, eval (.Call (.Attribute (.Attribute o f fpos) "values" apos) [] [] cpos) X.env) :: starEach [e2] X.env := by rfl) (hpl : (backTo zpos (starEach [e2] X.env)).any (·.1) = false := by rfl)
    (hsI : ∀ x, foldedSetIterable (.Call (.Name "zip" p2) [.Call (.Attribute (.Attribute o f fpos) "values" apos) [] [] cpos, e2] [] zpos) X.env x = pure x := by intro _; rfl)
    (hsL : starEach [.ListComp elt [⟨.Tuple elts kk tpos, .Call (.Name "zip" p2) [.Call (.Attribute (.Attribute o f fpos) "values" apos) [] [] cpos, e2] [] zpos, [], 0⟩] scope lpos] X.env = (false, eval (.ListComp elt [⟨.Tuple elts kk tpos, .Call (.Name "zip" p2) [.Call (.Attribute (.Attribute o f fpos) "values" apos) [] [] cpos, e2] [] zpos, [], 0⟩] scope lpos) X.env) :: starEach [] X.env := by rfl) :
    PuD X (.Call (.Name "all" p) [.ListComp elt [⟨.Tuple elts kk tpos, .Call (.Name "zip" p2) [.Call (.Attribute (.Attribute o f fpos) "values" apos) [] [] cpos, e2] [] zpos, [], 0⟩] scope lpos] [] pos)
      (tLockE (tCB (rAll X.K) (tCons (tLc (Zg.iZipV X.K (tFld X.K (tVar i) f) tb) (cTg (own.map (·.2)) θ) (cTe yesF) (cPu φ) (own.map (·.2))) tNil))) (allZipF i C0 f φb (own.map (·.2)) θ φ) :=
  ⟨pe_lock (pe_callB (cr_all hc) hg hm hv (pa_cons (pe_lc hc hN (Zg.pi_zipV hg2 hm2 (pe_fld ho hb1) hb.pe hbase hline hs2 hs hpl) ok (fun s H C cl fp => (ht s H C cl fp).c (hw s H C cl fp))
      (fun s H C cl fp => ⟨fun pins s' σ H' Q I ⟨ρ, b, G, h1, h2, h3⟩ => pts_nil.run pins s' σ H' Q I (ts_nil ρ b h1 G H' σ h2 Q h3)⟩) (fun s H C cl fp => (he s H C cl fp).c) hsI) pa_nil hsL)), fun ρ z ee G H σ x Q k => by
    unfold allZipF at ee
    split at ee
    · rename_i ob h1
      obtain ⟨d, e1, ee⟩ := Option.bind_eq_some_iff.mp ee
      split at ee
      · rename_i ks xs
        split at ee
        · rename_i hp
          obtain ⟨y, e2, ee⟩ := Option.bind_eq_some_iff.mp ee
          split at ee
          · rename_i b ys
            split at ee
            · rename_i hlen
              obtain ⟨zs, e3, ee⟩ := Option.bind_eq_some_iff.mp ee
              obtain ⟨bs, e4, rfl⟩ := Option.map_eq_some_iff.mp ee
              obtain ⟨v, h2, h3⟩ := x.pu i ob h1
              unfold fldD at e1
              split at e1
              · rename_i C ns fs
                split at e1
                · rename_i hC
                  subst hC
                  obtain ⟨a, dx, us, rfl, ha, hl0, hr⟩ := h3.un_obj
                  obtain ⟨u, hu, ru⟩ := getS_rep hr e1
                  obtain ⟨dd, ws, rfl, hd, l1, l2, qs⟩ := ru.un_dct
                  have hHd := x.gh _ _ hd
                  have had : a ≠ dd := fun z => by rw [z, hd] at ha; cases ha
                  refine ⟨dd, .dK (ks.zip ws), hHd, trivial, fun od => ?_⟩
                  have exS : ExS G (upd G dd (.frz od (.dK (ks.zip ws)))) := fun c b0 us0 hh => by
                    have : c ≠ dd := fun z => by rw [z, hd] at hh; exact mkS_ne (Option.some.inj hh).symm
                    rw [upd_ne this]; exact hh
                  have exG : Ex (upd G dd (.frz od (.dK (ks.zip ws)))) (upd H dd (.frz od (.dK (ks.zip ws)))) := fun c o hh => by
                    by_cases q : c = dd
                    · rw [q, upd_same] at hh ⊢; exact hh
                    · rw [upd_ne q] at hh ⊢; exact x.gh _ _ hh
                  have x' := x.cut exS exG
                  have qs' : Reps (upd G dd (.frz od (.dK (ks.zip ws)))) xs ws := Reps.plain exS hp qs
                  have aH : upd H dd (.frz od (.dK (ks.zip ws))) a = some (.ins C dx (ns.zip us)) := by rw [upd_ne had]; exact x.gh _ _ ha
                  have hz : (ks.zip ws).map (·.2) = ws := by rw [List.map_snd_zip]; rw [qs.len]; omega
                  have fin : ItAt (Zg.iZipV X.K (tFld X.K (tVar i) f) tb) (zipL xs ys) (upd G dd (.frz od (.dK (ks.zip ws)))) (upd H dd (.frz od (.dK (ks.zip ws)))) σ := fun R kR => by
                    refine ⟨.ref a, h2, a, C, dx, _, .ref dd, rfl, aH, cl, n, hu, dd, od, ks.zip ws, rfl, upd_same, ?_⟩
                    refine hb.ev _ _ e2 _ _ σ x' _ fun v2 G2 H2 f2 r2 => ?_
                    obtain ⟨b2, us2, rfl, hb2, l3, q2⟩ := r2.un_sq
                    have gd : G2 dd = some (.frz od (.dK (ks.zip ws))) := f2.g _ _ upd_same
                    refine ⟨b2, us2, rfl, f2.gh _ _ gd, ?_⟩
                    have qs2 := qs'.mono f2.g
                    have hmin : (zipL xs ys).length = min ws.length us2.length := by rw [zip_len, qs2.len, q2.len]
                    cases b with
                    | true => exact .inl ⟨SqL.of (f2.gh _ _ hb2), kR _ G2 H2 (fun H => (∃ kvs, H dd = some (.frz od (.dK kvs)) ∧ ws = kvs.map (·.2)) ∧ SqL X.K H b2 us2) _ f2 (walk_v2 hmin)
                        (fun H' g => ⟨⟨_, g _ _ gd, hz.symm⟩, SqL.of (g _ _ hb2)⟩) (ypair_ok fun i x y _ z1 z2 => zip_get qs2 q2 i x y z1 z2)⟩
                    | false => exact .inr ⟨SqT.of (f2.gh _ _ hb2), kR _ G2 H2 (fun H => (∃ kvs, H dd = some (.frz od (.dK kvs)) ∧ ws = kvs.map (·.2)) ∧ SqT X.K H b2 us2) _ f2 (walk_v2 hmin)
                        (fun H' g => ⟨⟨_, g _ _ gd, hz.symm⟩, SqT.of (g _ _ hb2)⟩) (ypair_ok fun i x y _ z1 z2 => zip_get qs2 q2 i x y z1 z2)⟩
                  refine lc_at (own.map (·.2)) fin x' hlen e3 (fun v H1 => rAll X.K [v] H1 fun v H' => H' dd = some (.frz od (.dK (ks.zip ws))) ∧ Q v (upd H' dd (.dK (ks.zip ws)))) fun pp us3 G2 H2 f2 n1 n2 h4 l4 q4 => ?_
                  show rAll X.K [.ref pp] H2 _
                  obtain rfl := bools_un e4
                  obtain ⟨rfl, _⟩ := reps_leafy q4
                  have gd : G2 dd = some (.frz od (.dK (ks.zip ws))) := f2.g _ _ upd_same
                  refine ⟨pp, bs, rfl, SqL.of h4, f2.gh _ _ gd, ?_⟩
                  refine k _ (upd G2 dd (.dK (ks.zip ws))) _ ⟨fun c o hh => ?_, fun c o hh => ?_, fun c o hh => ?_, fun c c1 c2 => ?_⟩ (.lf rfl)
                  · by_cases q : c = dd
                    · rw [q, upd_same]; rw [q, hd] at hh; exact hh
                    · rw [upd_ne q]; exact f2.g _ _ (by rw [upd_ne q]; exact hh)
                  · by_cases q : c = dd
                    · rw [q, upd_same] at hh ⊢; exact hh
                    · rw [upd_ne q] at hh ⊢; exact f2.gh _ _ hh
                  · by_cases q : c = dd
                    · rw [q, upd_same]; rw [q, hHd] at hh; exact hh
                    · rw [upd_ne q]; exact f2.h _ _ (by rw [upd_ne q]; exact hh)
                  · have q : c ≠ dd := fun z => by rw [z, hd] at c2; cases c2
                    rw [upd_ne q]
                    exact f2.nw _ (by rw [upd_ne q]; exact c1) (by rw [upd_ne q]; exact c2)
                · cases e1
              · cases e1
            · cases ee
          · cases ee
        · cases ee
      · cases ee
    · cases ee⟩
end
end L2.Tr

namespace L2.Tr
open PySem PySem.Spec PyProof.Rows
/-! isinstance(x, C), C an own class -/
structure OwnC (K : PySem.W.Frag) (C : Addr) : Prop where
  ty : ∀ {H : Hp} {a dx : Addr} {fs : List (Str × V)}, H a = some (.ins C dx fs) → TyOf K H (.ref a) (.ref C)
  no : ∀ s ∈ ["NoneType", "bool", "int", "str", "list", "tuple", "dict"], PySem.W.kitOne K (.type s) (.ref C) = some false
def isCls (C0 : Addr) : D → Option Bool
  | .obj C _ _ => if C = C0 then some true else none
  | .leaf (.byt _) => none
  | .leaf (.ty _) => none
  | d => (tyName d).bind fun s => if s ∈ ["NoneType", "bool", "int", "str", "list", "tuple", "dict"] then some false else none
section
variable {X : Cx} {K : PySem.W.Frag} {e : Expr} {t : TE} {φ : Env → Option D}
theorem isT_cls {C0 : Addr} (h : OwnC K C0) : IsT K (.ref C0) (isCls C0) := fun d b e H v r => by
  have gen : ∀ {d : D}, ((tyName d).bind fun s => if s ∈ ["NoneType", "bool", "int", "str", "list", "tuple", "dict"] then some false else none) = some b → Rep H d v → ∃ t, TyX K H v t ∧ PySem.W.kitOne K t (.ref C0) = some b := fun {d} e r => by
    obtain ⟨s, h1, h2⟩ := Option.bind_eq_some_iff.mp e
    split at h2
    · rename_i hs
      cases h2
      exact ⟨_, ty_of h1 r, h.no s hs⟩
    · cases h2
  cases d with
  | obj C ns ds =>
    unfold isCls at e
    simp only at e
    split at e
    · rename_i hC
      subst hC
      cases e
      obtain ⟨a, dx, us, rfl, h1, _, _⟩ := r.un_obj
      exact ⟨_, .base (h.ty h1), if_pos (beq_self_eq_true _)⟩
    · cases e
  | dct ks ds => exact gen (d := .dct ks ds) e r
  | frz ks ds => exact gen (d := .frz ks ds) e r
  | seq b' ds => exact gen (d := .seq b' ds) e r
  | leaf x => cases x <;> first | (cases e; done) | exact gen (d := .leaf .non) e r | exact gen (d := .leaf (.bl _)) e r | exact gen (d := .leaf (.int _)) e r | exact gen (d := .leaf (.str _)) e r
theorem pu_isiC {x : Str} {p pos : Pos} {C : Addr} {eT : Expr} {q : D → Option Bool} (hT : IsT X.K (.ref C) q) (hg : Gl X x) (hm : X.mg x = none) (hv : bootBuiltins x = some (.builtin "isinstance")) (ha : ViD X e t φ) (hT2 : PE X eT (tC (.ref C))) (hn : x ≠ "__name__" := by decide) (hdb : (x == ("__debug__" : Str)) = false := by decide)
    (he1 : starEach [eT] X.env = (false, eval eT X.env) :: starEach [] X.env := by rfl) (he : starEach [e, eT] X.env = (false, eval e X.env) :: starEach [eT] X.env := by rfl) (hpl : (backTo pos (starEach [eT] X.env)).any (·.1) = false := by rfl) :
    PuD X (.Call (.Name x p) [e, eT] [] pos) (tCB (rIsi X.K) (tCons t (tCons (tC (.ref C)) tNil))) (isF q φ) := ⟨pe_callB call_isi hg hm hv (pa_cons ha.pe (pa_cons hT2 pa_nil he1) he) hn hdb he hpl, fun ρ d ee G H σ xx Q k => by
  obtain ⟨b, h1, rfl⟩ := Option.map_eq_some_iff.mp ee
  obtain ⟨d1, h2, h3⟩ := Option.bind_eq_some_iff.mp h1
  refine ha.ev ρ d1 h2 G H σ xx _ fun v G1 H1 f1 r1 => ?_
  obtain ⟨tt, h4, h5⟩ := hT d1 b h3 H1 v (r1.rep f1.gh)
  exact ⟨v, .ref C, tt, .ref C, b, rfl, .own C, h4, h5, k _ G1 H1 f1 (.lf rfl)⟩⟩
theorem con_in {C0 : Addr} {k : Nat} {f : List D → Option D} (h : Con X.prog X.w X.K X.mg X.base C0 k f) (hr : Room k X.A) : OpR X (compareOp .In) (L2.Vy.rInO C0 (spP f) false) := by
  obtain ⟨a, fd, ps, h1, h2, h3⟩ := h.ex
  exact L2.Vy.op_inO h2 hr h1 h3 pass0
theorem con_notIn {C0 : Addr} {k : Nat} {f : List D → Option D} (h : Con X.prog X.w X.K X.mg X.base C0 k f) (hr : Room k X.A) : OpR X (compareOp .NotIn) (L2.Vy.rInO C0 (spP f) true) := by
  obtain ⟨a, fd, ps, h1, h2, h3⟩ := h.ex
  exact L2.Vy.op_notInO h2 hr h1 h3 pass0
end
abbrev dinV (φa φb : Env → Option D) : Env → Option D := fun ρ => (bin2 (dinB false) φa φb ρ).map bD
abbrev neverF : Env → Option Out := fun _ => none
end L2.Tr

namespace L2.TRev
open PySem PySem.Spec PyProof.Rows L2 HT
open PySem.Sem (wp)
section
variable {prog : Program} {w : World} {A : Around} {E : Value → Shared → Prop} {s : Shared}
theorem places_rev (n : Nat) : Builtin.Slice.slicePlaces ((n : Int) - 1) (-1) (-1) = n := by
  unfold Builtin.Slice.slicePlaces
  have h1 : ¬ ((-1 : Int) > 0) := by omega
  have h2 : (- -1 : Int) = 1 := by decide
  simp only [h1, if_false, h2, Int.ediv_one]
  split <;> omega
theorem adjust_rev (n : Nat) : Builtin.Slice.sliceAdjust none none (-1) (n : Int) = ((n : Int) - 1, -1) := by
  unfold Builtin.Slice.sliceAdjust
  rfl
theorem applied_rev {sl : Addr} {vs : Value} {n : Nat} {Q : Int × Int × Nat → Shared → Prop} (hs : s.heap.IsSliceOf sl .none .none vs) (ps : IsPart vs (some (-1)))
    (h : Q ((n : Int) - 1, -1, n) s) : wpAny (model prog w) A (Builtin.Slice.sliceApplied (.ref sl) (pure (n : Int))) Q E s := by
  obtain ⟨os, hos, hcs, hds⟩ := id hs
  unfold Builtin.Slice.sliceApplied Builtin.Slice.sliceFields
  refine wpAny_bind (wpAny_bind (wpAny_field hos hds (x := .none) rfl (wpAny_bind (wpAny_field hos hds (x := .none) rfl (wpAny_bind (wpAny_field hos hds (x := vs) rfl (wpAny_pure ?_)))))))
  refine wpAny_bind (slicePart_ ps ?_)
  show wpAny _ _ (if ((-1 : Int) == 0) = true then _ else _) _ _ s
  rw [if_neg (by decide)]
  refine wpAny_bind (slicePart_none (wpAny_bind (slicePart_none (wpAny_bind (wpAny_pure ?_)))))
  show wpAny _ _ (match Builtin.Slice.sliceAdjust none none (-1) (n : Int) with | (lo, hi) => pure (lo, (-1 : Int), Builtin.Slice.slicePlaces lo hi (-1))) _ _ s
  rw [adjust_rev n]
  show wpAny _ _ (pure ((n : Int) - 1, (-1 : Int), Builtin.Slice.slicePlaces ((n : Int) - 1) (-1) (-1))) _ _ s
  rw [places_rev]
  exact wpAny_pure h
theorem pick_rev (xs : Array Value) : ((List.range xs.size).filterMap fun (m : Nat) => xs[(((xs.size : Int) - 1) + (m : Int) * (-1)).toNat]?).toArray = xs.toList.reverse.toArray := by
  have h : (List.range xs.size).filterMap (fun (m : Nat) => xs[(((xs.size : Int) - 1) + (m : Int) * (-1)).toNat]?) = ((List.range xs.size).map fun k => xs.size - 1 - k).filterMap (xs[·]?) := by
    rw [List.filterMap_map]
    have gen : ∀ (l : List Nat), (∀ m ∈ l, m < xs.size) → l.filterMap (fun (m : Nat) => xs[(((xs.size : Int) - 1) + (m : Int) * (-1)).toNat]?) = l.filterMap ((fun x => xs[x]?) ∘ fun k => xs.size - 1 - k) := fun l => by
      induction l with
      | nil => intro _; rfl
      | cons m l ih =>
        intro hl
        have hm := hl m List.mem_cons_self
        have e : (((xs.size : Int) - 1) + (m : Int) * (-1)).toNat = xs.size - 1 - m := by omega
        rw [List.filterMap_cons, List.filterMap_cons, ih fun z hz => hl z (List.mem_cons_of_mem _ hz), e]
        rfl
    exact gen _ fun m hm => List.mem_range.mp hm
  rw [h, PySem.W.krv_range, List.filterMap_reverse, PySem.W.krv_all]
theorem getItem_rev {t sl : Addr} {items : Array Value} {vs : Value} {Q : Value → Shared → Prop} (ht : IsTup s.heap t items) (hs : s.heap.IsSliceOf sl .none .none vs) (ps : IsPart vs (some (-1)))
    (h : Q (.ref s.heap.objs.size) { s with heap := s.heap.push { cls := .type "tuple", data := .seq items.toList.reverse.toArray } })
    (hsz : items.size ≤ sizeLine) : wpAny (model prog w) A (getItem (.ref t) (.ref sl)) Q E s := by
  have htake : sizeOk (.seq items.toList.reverse.toArray) := by
    show items.toList.reverse.toArray.size ≤ sizeLine
    rw [List.size_toArray, List.length_reverse, Array.length_toList]
    omega
  obtain ⟨os, hos, hcs, hds⟩ := id hs
  have hTs : s.TypeIs (.ref sl) "slice" := ⟨os, hos, hcs⟩
  unfold getItem
  try with_reducible refine wpAny_holding ?_
  first | refine wpAny_bind (wpAny_pure ?_) | skip
  refine wpAny_bind (wpAny_sequenceKey ht.typeIs (by decide) ?_)
  refine wpAny_bind (wpAny_callSpecial?_slot (name := Str.ofString "__getitem__") ht.typeIs PyProof.Rows.slot_tuple_getitem
    (wpAny_call_entry PyProof.Rows.slot_tuple_getitem ht.typeIs entry_tuple_getitem ?_ (args_tuple_getitem _ _)))
  show wpAny _ _ (Builtin.Tuple.tupleItemsOf (.ref t) >>= _) _ _ s
  refine wpAny_bind (tupleItemsOf_ ht ?_)
  refine wpAny_bind (wpAny_typeOf hTs ?_)
  rw [if_pos (by decide)]
  refine wpAny_bind (applied_rev hs ps ?_)
  have hno : ¬ ((((items.size : Int) - 1) == 0 && (-1 : Int) == 1 && items.size == items.size) = true) := by
    intro q
    rw [Bool.and_eq_true, Bool.and_eq_true] at q
    have := q.1.2
    exact absurd this (by decide)
  show wpAny _ _ (if (((items.size : Int) - 1) == 0 && (-1 : Int) == 1 && items.size == items.size) = true then _ else _) _ _ s
  rw [if_neg hno, pick_rev]
  first
    | exact wpAny_bind (m := Builtin.Tuple.tupleExact _) (wpAny_newObj_type (wpAny_pure ⟨_, rfl, wpAny_pure h⟩) htake)
    | exact wpAny_bind (m := Builtin.Tuple.tupleExact _) (wpAny_newObj_type (wpAny_bind (wpAny_pure (wpAny_pure ⟨_, rfl, wpAny_pure h⟩))) htake)
    | exact wpAny_bind (wpAny_bind (m := Builtin.Tuple.tupleExact _) (wpAny_newObj_type (wpAny_pure (wpAny_pure ⟨_, rfl, wpAny_pure h⟩)) htake))
    | exact wpAny_bind (wpAny_bind (m := Builtin.Tuple.tupleExact _) (wpAny_newObj_type (wpAny_pure ⟨_, rfl, wpAny_pure h⟩) htake))
end
def tRevT (K : PySem.W.Frag) (te : TE) : TE := fun σ H Q => te σ H fun x H1 => ∃ a xs, x = .ref a ∧ SqT K H1 a xs ∧ ∀ p, H1 p = none → Q (.ref p) (upd H1 p (.tup xs.reverse))
theorem pe_revT {X : Cx} {e : Expr} {te : TE} {k : Nat} {p1 p2 p3 pos : Pos} (he : PE X e te) : PE X (.Subscript e (.Slice none none (some (.UnaryOp .USub (.Constant (.int 1) k p1) p2)) p3) pos) (tRevT X.K te) := by
  refine ⟨fun pins s σ H Q I h => ?_⟩
  refine Subscript_ (thn (he.run pins s σ H _ I h) fun v s1 ⟨x, H1, I1, r1, q1⟩ => ?_)
  obtain ⟨a, xs, ex, hx, q⟩ := q1
  subst ex
  cases r1
  have hst : PO X (some (.UnaryOp .USub (.Constant (.int 1) k p1) p2)) (tPart (tUn (rU fun i => .int (-i)) (tC (.int 1)))) := po_some (pe_un un_neg pe_int)
  refine wpAny_Slice (thn (po_none.run pins s1 σ H1 (fun o H2 => o = none ∧ H2 = H1) I1 ⟨rfl, rfl⟩) fun vl s2 ⟨l, H2, I2, pl, el, e2⟩ => ?_)
  subst el e2
  refine thn (po_none.run pins s2 σ H2 (fun o H3 => o = none ∧ H3 = H2) I2 ⟨rfl, rfl⟩) fun vu s3 ⟨u, H3, I3, pu, eu, e3⟩ => ?_
  subst eu e3
  refine thn (hst.run pins s3 σ H3 (fun o H4 => o = some (-1) ∧ H4 = H3) I3 ⟨1, rfl, -1, rfl, rfl, rfl⟩) fun vs s4 ⟨o, H4, I4, ps, eo, e4⟩ => ?_
  subst eo e4
  cases pl
  cases pu
  have I5 : Inv X pins σ H4 { s4 with heap := s4.heap.push { cls := .type "slice", data := .fields #[.none, .none, vs] } } := I4.kept (t' := s4.toks) fun b ob q => Heap.get?_push_of_some _ q
  obtain ⟨its, r, ht, hz⟩ := I5.tuple hx
  have hlen := r.length
  show wpAny (model X.prog X.w) X.A (subscriptTail e (.Slice none none (some (.UnaryOp .USub (.Constant (.int 1) k p1) p2)) p3) (.ref a) (.ref s4.heap.objs.size)) (EP X pins σ Q) X.xe { s4 with heap := s4.heap.push { cls := .type "slice", data := .fields #[.none, .none, vs] } }
  refine tail_any (ops := [.ref a, .ref s4.heap.objs.size]) ht.typeIs (PyProof.Rows.slot_tuple_getitem.lookup) ?_ (by with_unfolding_all rfl)
  refine getItem_rev ht (Heap.IsSliceOf.new _ .none .none vs) ps ?_ (by rw [List.size_toArray]; omega)
  refine ⟨.ref _, _, I5.laid (t' := s4.toks) (o := .tup xs.reverse) (fun b ob q => Heap.get?_push_of_some _ q) (Nat.le_refl _) ?_, rfl, q _ (I5.hok.fresh (Nat.le_refl _))⟩
  exact ⟨by rw [List.length_reverse]; exact hz, _, r.reverse, ⟨_, Heap.get?_push_size _ rfl, rfl, _, rfl⟩⟩
end L2.TRev
namespace L2.Tr
open PySem PySem.Spec PyProof.Rows
section
variable {X : Cx} {a : Expr} {ta : TE} {φa : Env → Option D} {pos : Pos}
def revT (φ : Env → Option D) : Env → Option D := fun ρ => (φ ρ).bind fun d => match d with
  | .seq false ds => some (.seq false ds.reverse)
  | _ => none
theorem pu_revT {k : Nat} {p1 p2 p3 : Pos} (h : ViD X a ta φa) : PuD X (.Subscript a (.Slice none none (some (.UnaryOp .USub (.Constant (.int 1) k p1) p2)) p3) pos) (TRev.tRevT X.K ta) (revT φa) := ⟨TRev.pe_revT h.pe, fun ρ z ee G H σ x Q kk => by
  obtain ⟨d, e1, e2⟩ := Option.bind_eq_some_iff.mp ee
  refine h.ev ρ d e1 G H σ x _ fun v G1 H1 f1 r1 => ?_
  split at e2
  · cases e2
    obtain ⟨p, us, rfl, h1, l1, q1⟩ := r1.tup.un_sq
    exact ⟨p, us, rfl, SqT.of (f1.gh _ _ h1), fun q nq => kk _ _ _ (f1.trans (.new f1.gh nq)) (.sq (b := false) upd_same (by rw [List.length_reverse]; exact l1) (q1.rev.mono (Ex.new (f1.gh.back nq))))⟩
  · cases e2⟩
end
end L2.Tr

/-! sorted(d, key=int) of a dict whose keys are ints -/
namespace L2.Tr
open PySem PySem.Spec PyProof.Rows
theorem le_of_merge {ks : List Int} : (ks.mergeSort (PySem.W.dataLe false PyData.int)).Pairwise (· ≤ ·) := by
  have e : PySem.W.dataLe false PyData.int = fun a b : Int => decide (a ≤ b) := PySem.W.dataLe_int (k := fun b : Int => b)
  rw [e]
  have := List.pairwise_mergeSort (le := fun a b : Int => decide (a ≤ b)) (fun a b c h1 h2 => by
    have h1 := of_decide_eq_true h1
    have h2 := of_decide_eq_true h2
    exact decide_eq_true (by omega)) (fun a b => by
    by_cases h : a ≤ b
    · simp [h]
    · have : b ≤ a := by omega
      simp [this]) ks
  exact this.imp fun h => of_decide_eq_true h
abbrev IsI : Value → Int → Prop := fun v x => ∃ t, v = .int x t
theorem each_ints : ∀ {vs : List Value} {ks : List Int}, IntsAre vs ks → PySem.W.EachIs IsI vs ks
  | _, _, .nil => .nil
  | _, _, .cons n t h => .cons ⟨t, rfl⟩ (each_ints h)
theorem ints_of_each : ∀ {vs : List Value} {ks : List Int}, PySem.W.EachIs IsI vs ks → IntsAre vs ks
  | _, _, .nil => .nil
  | _, _, .cons ⟨t, e⟩ h => by subst e; exact .cons _ t (ints_of_each h)
/-! Trees: sum of a list, displays of dicts. -/
namespace L2.Tr
open PySem PySem.Spec PyProof.Rows
def intsOf : List D → Option (List Int)
  | [] => some []
  | .leaf (.int i) :: r => (intsOf r).map (i :: ·)
  | _ :: _ => none
theorem ints_un : ∀ {ds : List D} {ns : List Int}, intsOf ds = some ns → ds = (ns.map V.int).map D.leaf
  | [], ns, h => by cases h; rfl
  | d :: r, ns, h => by
    unfold intsOf at h
    split at h
    · rename_i hh; cases hh
    · rename_i b r' hh
      obtain ⟨ws, h1, rfl⟩ := Option.map_eq_some_iff.mp h
      injection hh with e1 e2
      subst e1 e2
      rw [ints_un h1]; rfl
    · cases h
def sumD : List D → Option D
  | [.seq true ds] => (intsOf ds).map fun ns => .leaf (.int ns.sum)
  | _ => none
theorem r1_sum {K : PySem.W.Frag} : R1D (rSum K) sumD := fun ds z e G H vs x r1 Q k => by
  unfold sumD at e
  split at e
  · rename_i ds
    obtain ⟨ns, h1, rfl⟩ := Option.map_eq_some_iff.mp e
    obtain rfl := ints_un h1
    obtain ⟨v, rfl, r⟩ := views1 r1
    obtain ⟨a, us, rfl, h1, l1, q⟩ := r.seq x
    obtain ⟨rfl, _⟩ := reps_leafy q
    exact ⟨a, ns, rfl, SqL.of h1, k _ G H (.refl x) (.lf rfl)⟩
  · cases e
/-! {"k": e, ..} -/
section
variable {X : Cx} {e k : Expr} {t : TE} {φ : Env → Option D} {ψ : Env → Option (List D)} {pos : Pos} {keys : List (Option Expr)} {values : List Expr} {trs : List (TE × TE)}
structure DsD (X : Cx) (pos : Pos) (keys : List (Option Expr)) (values : List Expr) (trs : List (TE × TE)) (ks : List Str) (ψ : Env → Option (List D)) : Prop where
  pps : PPs X pos keys values trs
  ev : ∀ ρ ds, ψ ρ = some ds → ∀ (G H : Hp) (σ : St), EnvOk G H σ ρ → ∀ Q : List (V × V) → Hp → Prop, (∀ vs G2 H2, Fr G H G2 H2 → Reps G2 ds vs → vs.length = ks.length → Q ((ks.map V.str).zip vs) H2) → tPairs trs σ H Q
theorem ds_nil : DsD X pos [] [] [] [] nilD := ⟨pps_nil, fun ρ ds ee G H σ x Q k => by cases ee; exact k [] G H (.refl x.gh) .nil rfl⟩
theorem ds_cons {x : Str} {ks : List Str} (hk : PE X k (tC (.str x))) (hv : PuD X e t φ) (hr : DsD X pos keys values trs ks ψ) : DsD X pos (some k :: keys) (e :: values) ((tC (.str x), t) :: trs) (x :: ks) (consD φ ψ) := ⟨pps_cons hk hv.pe hr.pps, fun ρ ds ee G H σ x0 Q kk => by
  obtain ⟨d, ds', e1, e2, rfl⟩ := consD_un ee
  show t σ H _
  refine hv.ev ρ d e1 G H σ x0 _ fun v G1 H1 f1 r1 => ?_
  refine hr.ev ρ ds' e2 G1 H1 σ (x0.mono f1) _ fun vs G2 H2 f2 r2 l2 => ?_
  exact kk (v :: vs) G2 H2 (f1.trans f2) (.cons (r1.mono f2.g) r2) (by rw [List.length_cons, List.length_cons, l2])⟩
theorem valV_off {k : Key} : ∀ {ks : List Key} {us : List V}, k ∉ ks → valV (ks.zip us) k = none
  | [], us, _ => rfl
  | a :: ks, [], _ => rfl
  | a :: ks, u :: us, h => by
    rw [List.zip_cons_cons, valV_neg (fun z => h (by rw [← z]; exact List.mem_cons_self))]
    exact valV_off fun z => h (List.mem_cons_of_mem _ z)
theorem merge_zip : ∀ {ks acc : List Key} {vs as : List V}, (acc ++ ks).Nodup → acc.length = as.length → ks.length = vs.length → mergeK (acc.zip as) (ks.zip vs) = (acc ++ ks).zip (as ++ vs)
  | [], acc, vs, as, _, h1, h2 => by
    have : vs = [] := List.length_eq_zero_iff.mp h2.symm
    subst this
    rw [List.append_nil, List.append_nil]; rfl
  | k :: ks, acc, [], as, _, _, h2 => by simp at h2
  | k :: ks, acc, v :: vs, as, hn, h1, h2 => by
    have hk : k ∉ acc := fun z => (List.nodup_append.mp hn).2.2 _ z _ List.mem_cons_self rfl
    show mergeK (putK (acc.zip as) k v) (ks.zip vs) = _
    have e : putK (acc.zip as) k v = (acc ++ [k]).zip (as ++ [v]) := by
      rw [putK_new v (valV_off hk), List.zip_append h1]; rfl
    rw [e, merge_zip (by rw [List.append_assoc]; exact hn) (by rw [List.length_append, List.length_append, h1]; rfl) (by simpa using h2), List.append_assoc, List.append_assoc]
    rfl
def dispF (ks : List Str) (ψ : Env → Option (List D)) : Env → Option D := fun ρ => (ψ ρ).bind fun ds => if ds.length = ks.length then some (.dct (ks.map Sum.inr) ds) else none
theorem zip_kv : ∀ {ks : List Str} {vs : List V}, (ks.map V.str).zip vs = (((ks.map Sum.inr : List Key).zip vs).map fun kv => (kV kv.1, kv.2))
  | [], _ => rfl
  | k :: ks, [] => rfl
  | k :: ks, v :: vs => by
    rw [List.map_cons, List.map_cons, List.zip_cons_cons, List.zip_cons_cons, List.map_cons, zip_kv]
    rfl
theorem pu_disp {ks : List Str} (h : DsD X pos keys values trs ks ψ) (hn : ks.Nodup) (hk : ks.length ≤ 15) (hall : keys.all (·.isSome) = true) (hl : keys.length = values.length) (h0 : keys ≠ [])
    (h15 : keys.length ≤ 15) : PuD X (.Dict keys values pos) (tDisp trs) (dispF ks ψ) := ⟨pe_disp h.pps hall hl h0 h15, fun ρ d ee G H σ x Q k => by
  obtain ⟨ds, e1, e2⟩ := Option.bind_eq_some_iff.mp ee
  split at e2
  · rename_i hd
    cases e2
    intro p np
    have f0 : Fr G H G (upd H p (.dK [])) := .tmp x.gh np
    refine h.ev ρ ds e1 G _ σ (x.mono f0) _ fun vs G2 H2 f2 r2 l2 => ?_
    have hp2 := f2.h _ _ (upd_same (a := p) (o := (.dK [] : HO)))
    have gp2 : G2 p = none := f2.nw p (by rw [upd_same]; exact fun z => by cases z) (x.gh.back np)
    refine ⟨hp2, (ks.map Sum.inr : List Key).zip vs, zip_kv, by rw [List.length_zip, List.length_map]; omega, ?_⟩
    have e : mergeK [] ((ks.map Sum.inr : List Key).zip vs) = (ks.map Sum.inr).zip vs := by
      have := merge_zip (ks := ks.map Sum.inr) (acc := []) (vs := vs) (as := []) (by
        rw [List.nil_append]
        exact List.pairwise_map.mpr (hn.imp fun z w => z (Sum.inr.inj w))) rfl (by rw [List.length_map, l2])
      exact this
    rw [e]
    refine k (.ref p) (upd G2 p (.dK ((ks.map Sum.inr).zip vs))) _ ⟨f2.g.trans (Ex.new gp2), fun a o z => ?_, fun a o z => ?_, fun a z1 z2 => ?_⟩ (.dc upd_same (by rw [List.length_map, hd]) (by have : Lim = 5000 := rfl; omega) (r2.mono (Ex.new gp2)))
    · by_cases q : a = p
      · rw [q, upd_same] at z ⊢; exact z
      · rw [upd_ne q] at z ⊢; exact f2.gh _ _ z
    · have q : a ≠ p := ne_of_none z np
      rw [upd_ne q]
      exact f2.h _ _ (by rw [upd_ne q]; exact z)
    · have q : a ≠ p := fun w => z1 (w ▸ np)
      rw [upd_ne q]
      exact f2.nw a (by rw [upd_ne q]; exact z1) z2
  · cases e2⟩
end
end L2.Tr

/-! Trees: sorted, dict(..), range(a, b), sum, displays of dicts. -/
namespace L2.Tr
open PySem PySem.Spec PyProof.Rows
def upI (ks : List Int) : List Int := ks.mergeSort fun a b => decide (a ≤ b)
theorem upI_perm (ks : List Int) : (upI ks).Perm ks := List.mergeSort_perm _ _
theorem upI_le (ks : List Int) : (upI ks).Pairwise (· ≤ ·) := by
  have := List.pairwise_mergeSort (le := fun a b : Int => decide (a ≤ b)) (fun a b c h1 h2 => by
    have h1 := of_decide_eq_true h1
    have h2 := of_decide_eq_true h2
    exact decide_eq_true (by omega)) (fun a b => by
    by_cases h : a ≤ b
    · simp [h]
    · have : b ≤ a := by omega
      simp [this]) ks
  exact this.imp fun h => of_decide_eq_true h
theorem upI_of {ys ks : List Int} (h : ys.Perm ks) (hl : ys.Pairwise (· ≤ ·)) : ys = upI ks :=
  (h.trans (upI_perm ks).symm).eq_of_pairwise (fun a b _ _ h1 h2 => by omega) hl (upI_le ks)
def intD (i : Int) : D := .leaf (.int i)
theorem reps_ints {H : Hp} : ∀ ns : List Int, Reps H (ns.map intD) (ns.map V.int)
  | [] => .nil
  | n :: r => .cons (.lf rfl) (reps_ints r)
def intK : List Key → Option (List Int)
  | [] => some []
  | .inl i :: r => (intK r).map (i :: ·)
  | .inr _ :: _ => none
section
variable {X : Cx} {e e2 : Expr} {t ta tb : TE} {φ φa φb : Env → Option D} {pos p p2 kp : Pos}
/-! Trees: o[i], o an instance with a __getitem__ of its own; making with keywords. -/
namespace L2.Tr
open PySem PySem.Spec PyProof.Rows
section
variable {X : Cx} {K : PySem.W.Frag} {C f : Addr} {k : Nat} {a b e e2 : Expr} {es : List Expr} {ta tb t t' : TE} {φ φa φb : Env → Option D} {ψ ψ2 : Env → Option (List D)} {pos p : Pos} {fd : FuncData} {ps : List Str} {sp : Sp}
def rIxO (C : Addr) (sp : Sp) : R2 := fun x y H Q => ∃ a dx fs, x = .ref a ∧ H a = some (.ins C dx fs) ∧ sp [.ref a, y] H Q E0
structure Itm (P : Program) (w : World) (K : PySem.W.Frag) (mg : Str → Option Value) (base : Heap) (C : Addr) (k : Nat) (f : List D → Option D) : Prop where
  ex : ∃ (a : Addr) (fd : FuncData) (ps : List Str), L2.Vy.Own1 K C a "__getitem__" ∧ PySem.W.fnIn K a = true ∧ FnOk P w K mg base CX0 k a fd ps (spP f) ∧ Binds K fd ps []
def itmD (C0 : Addr) (f : List D → Option D) : D → D → Option D := fun x y => match x with
  | .obj C _ _ => if C = C0 then f [x, y] else none
  | _ => none
/-! C(e, .., k = v, ..) -/
structure MkrK (P : Program) (w : World) (K : PySem.W.Frag) (mg : Str → Option Value) (base : Heap) (x : Str) (C : Addr) (k n : Nat) (ks : List Str) (f : List D → Option (List Str × List D)) : Prop where
  ex : ∃ (a : Addr) (fd : FuncData) (ps : List Str) (g : List Value → List Value → List Value), Mk K C a ∧ mg x = some (.ref C) ∧ FnOk P w K mg base CX0 k a fd ps (spI C f) ∧ KBn K fd ps (n + 1) ks g (fun vs zs => vs ++ zs)
structure PkD (X : Cx) (kws : List Keyword) (t : TA) (ψ : Env → Option (List D)) : Prop where
  pk : PK X kws t
  ev : ArS t ψ
theorem pk_nilD : PkD X [] tNil nilD := ⟨pk_nil, (ar_nil (X := X)).ev⟩
theorem pk_consD {nm : Option Str} {kpos : Pos} {kws : List Keyword} {tk : TA} (h : PuD X e t φ) (hr : PkD X kws tk ψ) : PkD X (⟨nm, e, kpos⟩ :: kws) (tCons t tk) (consD φ ψ) := ⟨pk_cons h.pe hr.pk, fun ρ d ee G H σ x Q k => by
  obtain ⟨y, ys, e1, e2, rfl⟩ := consD_un ee
  refine h.ev ρ y e1 G H σ x _ fun v G1 H1 f1 r1 => ?_
  exact hr.ev ρ ys e2 G1 H1 σ (x.mono f1) _ fun vs G2 H2 f2 r2 => k _ G2 H2 (f1.trans f2) (.cons (r1.mono f2.g) r2)⟩
def kwF (n m : Nat) (ψ ψ2 : Env → Option (List D)) : Env → Option (List D) := fun ρ => (ψ ρ).bind fun ds => (ψ2 ρ).bind fun es => if ds.length = n ∧ es.length = m then some (ds ++ es) else none
theorem pu_makeK {x : Str} {n : Nat} {ks : List Str} {kws : List Keyword} {f : List D → Option (List Str × List D)} {tr tk : TA} (h : MkrK X.prog X.w X.K X.mg X.base x C k n ks f) (hr : Room (k + 1) X.A) (hg : Gl X x) (ha : ArD X (e :: es) tr ψ) (hk : PkD X kws tk ψ2)
    (hall : (backToKw pos (keywordEach kws X.env)).all (·.1.isSome) = true := by rfl) (hks : (backToKw pos (keywordEach kws X.env)).filterMap (·.1) = ks := by rfl) (hdb : (x == ("__debug__" : Str)) = false := by decide)
    (he : starEach (e :: es) X.env = (false, eval e X.env) :: starEach es X.env := by rfl) (hpl : ((backTo pos (starEach (e :: es) X.env)).any (·.1) || (backToKw pos (keywordEach kws X.env)).any (·.1.isNone)) = false := by rfl) :
    PuD X (.Call (.Name x p) (e :: es) kws pos) (tMakeK C n ks.length (spI C f) (fun vs zs => vs ++ zs) E0 tr tk) (app1 (mkD C f) (kwF n ks.length ψ ψ2)) := by
  obtain ⟨a, fd, ps, g, M, h1, F, h3⟩ := h.ex
  refine ⟨pe_makeK M F hr hg h1 h3 pass0 ha.pa hk.pk hall hks hdb he hpl, fun ρ d ee G H σ x Q kk => ?_⟩
  obtain ⟨ds0, e1, e2⟩ := Option.bind_eq_some_iff.mp ee
  obtain ⟨⟨ns, zs⟩, e3, rfl⟩ := Option.map_eq_some_iff.mp e2
  obtain ⟨ds, e4, e1⟩ := Option.bind_eq_some_iff.mp e1
  obtain ⟨es', e5, e1⟩ := Option.bind_eq_some_iff.mp e1
  split at e1
  · rename_i hl
    cases e1
    refine ha.ev ρ ds e4 G H σ x _ fun vs G1 H1 f1 r1 => ?_
    refine hk.ev ρ es' e5 G1 H1 σ (x.mono f1) _ fun ws G2 H2 f2 r2 => ?_
    have f12 := f1.trans f2
    have rr : Reps G2 (ds ++ es') (vs ++ ws) := (r1.mono f2.g).app r2
    refine ⟨by rw [r1.len]; exact hl.1, by rw [r2.len]; exact hl.2, fun y dx ny ndx nex => ?_⟩
    have e5 : Ex H2 (upd (upd H2 dx (.own y)) y (.ins C dx [])) := (Ex.new ndx).trans (Ex.new (by rw [upd_ne (Ne.symm nex)]; exact ny))
    refine ⟨G2, ds ++ es', y, dx, vs ++ ws, ns, zs, rfl, f2.gh.back ny, upd_same, f2.gh.trans e5, rr, e3, fun G3 H3 dx2 us g1 g2 g3 g4 g5 g6 g7 g8 => ⟨rfl, ?_⟩⟩
    have e6 : Ex H2 H3 := fun c o z => g3 c o (e5 c o z) (ne_of_none z ny)
    refine kk (.ref y) (upd G3 y (.ins C dx2 (ns.zip us))) H3 (f12.trans ⟨g1.trans (Ex.new g5), fun c o z => ?_, e6, fun c z1 z2 => ?_⟩) (.ob upd_same g7 (g8.mono (Ex.new g5)))
    · by_cases q : c = y
      · rw [q, upd_same] at z; cases z; rw [q]; exact g6
      · rw [upd_ne q] at z; exact g2 _ _ z
    · obtain ⟨o, ho⟩ := Option.ne_none_iff_exists'.mp z1
      have hc : c ≠ y := fun q => z1 (q ▸ ny)
      rw [upd_ne hc]
      exact g4 c (by rw [e5 c o ho]; exact fun q => by cases q) z2 hc
  · cases e1
end
end L2.Tr

/-! Trees: {k: v for x in xs}. -/
namespace L2.Tr
open PySem PySem.Spec PyProof.Rows
section
variable {X : Cx} {tg : Expr} {θ : D → Env → Option Env} {φk φv : Env → Option D} {ψ : Env → Option (List D)} {wi : TI} {pos : Pos}
def dcF (θ : D → Env → Option Env) (φk φv : Env → Option D) : List D → Env → Option (List (Key × D))
  | [], _ => some []
  | d :: ds, ρ => (θ d ρ).bind fun ρ1 => (φk ρ1).bind fun y => (keyD y).bind fun k => (φv ρ1).bind fun z => (dcF θ φk φv ds ρ).map ((k, z) :: ·)
def dctF (vs : List Nat) (ψ : Env → Option (List D)) (θ : D → Env → Option Env) (φk φv : Env → Option D) : Env → Option D := fun ρ => (ψ ρ).bind fun ds => if ds.length ≤ Lim then (dcF θ φk φv ds (wipeE ρ vs)).bind fun r => if (r.map (·.1)).Nodup then some (.dct (r.map (·.1)) (r.map (·.2))) else none else none
theorem dcF_len {ρ : Env} : ∀ {ds : List D} {r : List (Key × D)}, dcF θ φk φv ds ρ = some r → r.length = ds.length
  | [], r, h => by cases h; rfl
  | d :: ds, r, h => by
    unfold dcF at h
    obtain ⟨ρ1, _, h⟩ := Option.bind_eq_some_iff.mp h
    obtain ⟨y, _, h⟩ := Option.bind_eq_some_iff.mp h
    obtain ⟨k, _, h⟩ := Option.bind_eq_some_iff.mp h
    obtain ⟨z, _, h⟩ := Option.bind_eq_some_iff.mp h
    obtain ⟨r2, h2, rfl⟩ := Option.map_eq_some_iff.mp h
    rw [List.length_cons, List.length_cons, dcF_len h2]
end
end L2.Tr

/-! Trees: == of dicts that hold plain data. -/
namespace L2.Tr
open PySem PySem.Spec PyProof.Rows
def eqHits : List Key → List PyData → List Key → List PyData → Bool
  | k :: ks, p :: ps, ls, qs => match valV' ls qs k with
    | none => false
    | some q => PyData.eqv p q && eqHits ks ps ls qs
  | _, _, _, _ => true
where valV' : List Key → List PyData → Key → Option PyData
  | k :: ks, q :: qs, x => if k = x then some q else valV' ks qs x
  | _, _, _ => none
def eqDct : D → D → Option D
  | .dct ks ds, .dct ls es => (pyDs ds).bind fun ps => (pyDs es).bind fun qs => if ps.all SeqAt.shaped = true ∧ qs.all SeqAt.shaped = true then some (bD (decide (ks.length = ls.length) && eqHits ks ps ls qs)) else none
  | _, _ => none
section
variable {X : Cx} {K : PySem.W.Frag}
def rEqDct (K : PySem.W.Frag) (neg : Bool) : R2 := fun x y H Q => ∃ (a b : Addr) (ks ls : List Key) (us ws : List V) (ps qs : List PyData), x = .ref a ∧ y = .ref b ∧ H a = some (.dK (ks.zip us)) ∧ H b = some (.dK (ls.zip ws)) ∧ ks.length = us.length ∧ ls.length = ws.length ∧
  DpAll K H us ps ∧ DpAll K H ws qs ∧ ps.all SeqAt.shaped = true ∧ qs.all SeqAt.shaped = true ∧ Q (.bl (xor neg (decide (ks.length = ls.length) && eqHits ks ps ls qs))) H
end
end L2.Tr

/-! Trees: int(x), sorted(..), and what their emitted derivations name. -/
namespace L2.Tr
open PySem PySem.Spec PyProof.Rows
structure TxB2 (mg : Str → Option Value) : Prop extends TxB mg where
  z_sorted : mg "sorted" = none
theorem hu9 {A : Around} {k : Nat} (hr : Room k A) : A.units + 9 < cLine := by have := hr.un; omega
def intD1 : List D → Option D
  | [.leaf (.int i)] => some (.leaf (.int i))
  | [.leaf (.bl b)] => some (.leaf (.int (if b then 1 else 0)))
  | _ => none
section
variable {X : Cx} {e : Expr} {es : List Expr} {pos p : Pos} {ψ : Env → Option (List D)} {tr : TA} {r : List V → Hp → VK → Prop} {opO : List D → Option (List D)} {id : String} {x : Str}
end
end L2.Tr

/-! Trees: [.. for k in d], d a dict that a name holds: it is locked while the comprehension runs. -/
namespace L2.Tr
open PySem PySem.Spec PyProof.Rows
section
variable {X : Cx} {tg elt : Expr} {φ : Env → Option D} {χ : Env → Option Bool} {θ : D → Env → Option Env} {pos : Pos}
/-! Trees: != of two lists whose things are equal, dicts of plain data among them. -/
namespace PySem.SeqAt
open AutoSeq1 (wpAny_loadPart')
open MeetsSeq MeetsSeq2 MeetsSeq3 SeqRoads2
section
variable {P : Program} {w : World} {l b : Addr} {xs ys : Array Value}
/-! Trees beside something that changes: readings that leave open what comes (what is drawn), and exceptions. -/
namespace L2.Tr
open PySem PySem.Spec PyProof.Rows
/-- what stands beside the trees: what it says of the heap, and at which addresses -/
structure Om (τ : Type) where
  I : τ → Hp → Prop
  F : τ → Addr → Prop
  ext : ∀ t H H', I t H → (∀ a o, F t a → H a = some o → H' a = some o) → I t H'
  has : ∀ t H a, I t H → F t a → H a ≠ none
section
variable {τ : Type} (Ω : Om τ)
structure EnvW (s : τ) (G H : Hp) (σ : St) (ρ : Env) : Prop where
  x : EnvOk G H σ ρ
  i : Ω.I s H
  g : ∀ a, Ω.F s a → G a = none
  o : ∀ a, Ω.F s a → ¬ Own σ ρ a
structure FrW (s : τ) (G H : Hp) (s2 : τ) (G2 H2 : Hp) : Prop where
  g : Ex G G2
  gh : Ex G2 H2
  h : ∀ a o, H a = some o → ¬ Ω.F s a → H2 a = some o
  nw : ∀ a, H a ≠ none → G a = none → G2 a = none
  i : Ω.I s2 H2
  fp : ∀ a, Ω.F s2 a → Ω.F s a ∨ H a = none
  kp : ∀ a, Ω.F s a → H2 a ≠ none
  out : ∀ a, Ω.F s2 a → G2 a = none
structure FrSW (s : τ) (σ : St) (ρ : Env) (G H : Hp) (s2 : τ) (σ2 : St) (ρ2 : Env) (G2 H2 : Hp) : Prop where
  g : Ex G G2
  h : ∀ a o, H a = some o → ¬ Own σ ρ a → ¬ Ω.F s a → H2 a = some o
  nw : ∀ a, H a ≠ none → G a = none → ¬ Own σ ρ a → G2 a = none
  ow : ∀ a, Own σ2 ρ2 a → Own σ ρ a ∨ H a = none
  ob : ObK σ ρ σ2 ρ2
  fp : ∀ a, Ω.F s2 a → Ω.F s a ∨ H a = none ∨ Own σ ρ a
  kp : ∀ a, Ω.F s a → H2 a ≠ none
structure FrRW (s : τ) (σ : St) (ρ : Env) (G H : Hp) (s2 : τ) (G2 H2 : Hp) : Prop where
  g : Ex G G2
  gh : Ex G2 H2
  h : ∀ a o, H a = some o → ¬ Own σ ρ a → ¬ Ω.F s a → H2 a = some o
  nw : ∀ a, H a ≠ none → G a = none → ¬ Own σ ρ a → G2 a = none
  i : Ω.I s2 H2
  fp : ∀ a, Ω.F s2 a → Ω.F s a ∨ H a = none ∨ Own σ ρ a
  kp : ∀ a, Ω.F s a → H2 a ≠ none
  out : ∀ a, Ω.F s2 a → G2 a = none
end
section
variable {τ : Type} {Ω : Om τ} {s s2 s3 : τ} {G H G2 H2 G3 H3 : Hp} {σ σ2 σ3 : St} {ρ ρ2 ρ3 : Env}
theorem EnvW.no (x : EnvW Ω s G H σ ρ) {a : Addr} (h : Own σ ρ a) : ¬ Ω.F s a := fun z => x.o a z h
theorem own_some (x : EnvOk G H σ ρ) {a : Addr} (h : Own σ ρ a) : H a ≠ none := fun n => own_free x n h
theorem FrW.of (x : EnvW Ω s G H σ ρ) (f : Fr G H G2 H2) : FrW Ω s G H s G2 H2 :=
  ⟨f.g, f.gh, fun a o h _ => f.h a o h, f.nw, Ω.ext s H H2 x.i fun a o _ h => f.h a o h, fun a z => .inl z, fun a z n => (by
    cases e : H a with
    | none => exact Ω.has s H a x.i z e
    | some o =>
      rw [f.h a o e] at n
      cases n), fun a z => f.nw a (Ω.has s H a x.i z) (x.g a z)⟩
theorem FrW.refl (x : EnvW Ω s G H σ ρ) : FrW Ω s G H s G H := .of x (.refl x.x.gh)
theorem FrW.trans (a : FrW Ω s G H s2 G2 H2) (b : FrW Ω s2 G2 H2 s3 G3 H3) : FrW Ω s G H s3 G3 H3 := by
  have nf : ∀ c, H c ≠ none → ¬ Ω.F s c → ¬ Ω.F s2 c := fun c h n z => (a.fp c z).elim n h
  have kk : ∀ c, H c ≠ none → H2 c ≠ none := fun c h => by
    by_cases z : Ω.F s c
    · exact a.kp c z
    · cases e : H c with
      | none => exact absurd e h
      | some o => rw [a.h c o e z]; exact fun z => nomatch z
  refine ⟨a.g.trans b.g, b.gh, fun c o h n => b.h c o (a.h c o h n) (nf c (by rw [h]; exact fun z => nomatch z) n), fun c h1 h2 => b.nw c (kk c h1) (a.nw c h1 h2), b.i, fun c z => ?_, fun c z => ?_, b.out⟩
  · rcases b.fp c z with q | q
    · exact a.fp c q
    · cases e : H c with
      | none => exact .inr rfl
      | some o => exact absurd q (kk c (by rw [e]; exact fun z => nomatch z))
  · have h2 := a.kp c z
    by_cases q : Ω.F s2 c
    · exact b.kp c q
    · cases e : H2 c with
      | none => exact absurd e h2
      | some o => rw [b.h c o e q]; exact fun z => nomatch z
theorem EnvW.mono (x : EnvW Ω s G H σ ρ) (f : FrW Ω s G H s2 G2 H2) : EnvW Ω s2 G2 H2 σ ρ := by
  refine ⟨⟨f.gh, x.x.len, fun i d h => ?_, fun i d h => ?_, x.x.inj⟩, f.i, f.out, fun a z w => ?_⟩
  · obtain ⟨v, h1, h2⟩ := x.x.pu i d h
    exact ⟨v, h1, h2.mono f.g⟩
  · obtain ⟨p, o, h1, h2, h3, h4⟩ := x.x.ow i d h
    exact ⟨p, o, h1, f.nw p (by rw [h3]; exact fun z => nomatch z) h2, f.h p o h3 (x.no ⟨i, d, h, h1⟩), h4.mono f.g⟩
  · rcases f.fp a z with q | q
    · exact x.o a q w
    · exact own_free x.x q w
theorem FrSW.kk (a : FrSW Ω s σ ρ G H s2 σ2 ρ2 G2 H2) (x : EnvW Ω s G H σ ρ) (x2 : EnvW Ω s2 G2 H2 σ2 ρ2) {c : Addr} (h : H c ≠ none) (n : ¬ Own σ ρ c) : H2 c ≠ none := by
  by_cases z : Ω.F s c
  · exact a.kp c z
  · cases e : H c with
    | none => exact absurd e h
    | some o => rw [a.h c o e n z]; exact fun z => nomatch z
theorem FrSW.refl (x : EnvW Ω s G H σ ρ) : FrSW Ω s σ ρ G H s σ ρ G H := ⟨Ex.refl _, fun a o h _ _ => h, fun a _ h _ => h, fun a z => .inl z, .refl, fun a z => .inl z, fun a z => Ω.has s H a x.i z⟩
theorem FrSW.nf (a : FrSW Ω s σ ρ G H s2 σ2 ρ2 G2 H2) {c : Addr} (h : H c ≠ none) (n : ¬ Ω.F s c) (m : ¬ Own σ ρ c) : ¬ Ω.F s2 c := fun z => by
  rcases a.fp c z with q | q | q
  · exact n q
  · exact h q
  · exact m q
theorem FrSW.no (a : FrSW Ω s σ ρ G H s2 σ2 ρ2 G2 H2) {c : Addr} (h : H c ≠ none) (n : ¬ Own σ ρ c) : ¬ Own σ2 ρ2 c := fun z => (a.ow c z).elim n h
theorem FrSW.fp2 (x : EnvW Ω s G H σ ρ) (x2 : EnvW Ω s2 G2 H2 σ2 ρ2) (a : FrSW Ω s σ ρ G H s2 σ2 ρ2 G2 H2) {F3 : Addr → Prop} (b : ∀ c, F3 c → Ω.F s2 c ∨ H2 c = none ∨ Own σ2 ρ2 c) : ∀ c, F3 c → Ω.F s c ∨ H c = none ∨ Own σ ρ c := fun c z => by
  by_cases w : Own σ ρ c
  · exact .inr (.inr w)
  · rcases b c z with q | q | q
    · exact a.fp c q
    · cases e : H c with
      | none => exact .inr (.inl rfl)
      | some o => exact absurd q (a.kk x x2 (by rw [e]; exact fun z => nomatch z) w)
    · rcases a.ow c q with r | r
      · exact .inr (.inr r)
      · exact .inr (.inl r)
theorem FrSW.kp2 (x : EnvW Ω s G H σ ρ) (a : FrSW Ω s σ ρ G H s2 σ2 ρ2 G2 H2) (bh : ∀ c o, H2 c = some o → ¬ Own σ2 ρ2 c → ¬ Ω.F s2 c → H3 c = some o) (bk : ∀ c, Ω.F s2 c → H3 c ≠ none) : ∀ c, Ω.F s c → H3 c ≠ none := fun c z => by
  have h2 := a.kp c z
  by_cases q : Ω.F s2 c
  · exact bk c q
  · by_cases w : Own σ2 ρ2 c
    · rcases a.ow c w with r | r
      · exact absurd r (x.o c z)
      · exact absurd r (Ω.has s H c x.i z)
    · cases e : H2 c with
      | none => exact absurd e h2
      | some o => rw [bh c o e w q]; exact fun z => nomatch z
theorem FrSW.trans (x : EnvW Ω s G H σ ρ) (x2 : EnvW Ω s2 G2 H2 σ2 ρ2) (a : FrSW Ω s σ ρ G H s2 σ2 ρ2 G2 H2) (b : FrSW Ω s2 σ2 ρ2 G2 H2 s3 σ3 ρ3 G3 H3) : FrSW Ω s σ ρ G H s3 σ3 ρ3 G3 H3 := by
  have ne : ∀ {c o}, H c = some o → H c ≠ none := fun {c o} h => by rw [h]; exact fun z => nomatch z
  refine ⟨a.g.trans b.g, fun c o h n1 n2 => b.h c o (a.h c o h n1 n2) (a.no (ne h) n1) (a.nf (ne h) n2 n1), fun c h1 h2 n => b.nw c (a.kk x x2 h1 n) (a.nw c h1 h2 n) (a.no h1 n), fun c z => ?_, a.ob.trans b.ob, a.fp2 x x2 b.fp, a.kp2 x b.h b.kp⟩
  rcases b.ow c z with q | q
  · exact a.ow c q
  · by_cases w : Own σ ρ c
    · exact .inl w
    · cases e : H c with
      | none => exact .inr rfl
      | some o => exact absurd q (a.kk x x2 (ne e) w)
theorem FrSW.transR (x : EnvW Ω s G H σ ρ) (x2 : EnvW Ω s2 G2 H2 σ2 ρ2) (a : FrSW Ω s σ ρ G H s2 σ2 ρ2 G2 H2) (b : FrRW Ω s2 σ2 ρ2 G2 H2 s3 G3 H3) : FrRW Ω s σ ρ G H s3 G3 H3 := by
  have ne : ∀ {c o}, H c = some o → H c ≠ none := fun {c o} h => by rw [h]; exact fun z => nomatch z
  exact ⟨a.g.trans b.g, b.gh, fun c o h n1 n2 => b.h c o (a.h c o h n1 n2) (a.no (ne h) n1) (a.nf (ne h) n2 n1), fun c h1 h2 n => b.nw c (a.kk x x2 h1 n) (a.nw c h1 h2 n) (a.no h1 n), b.i, a.fp2 x x2 b.fp, a.kp2 x b.h b.kp, b.out⟩
theorem FrSW.of (x : EnvW Ω s G H σ ρ) (f : FrW Ω s G H s2 G2 H2) : FrSW Ω s σ ρ G H s2 σ ρ G2 H2 := ⟨f.g, fun a o h _ n => f.h a o h n, fun a h1 h2 _ => f.nw a h1 h2, fun a z => .inl z, .refl, fun a z => (f.fp a z).elim .inl fun q => .inr (.inl q), f.kp⟩
theorem FrRW.of (f : FrW Ω s G H s2 G2 H2) : FrRW Ω s σ ρ G H s2 G2 H2 := ⟨f.g, f.gh, fun a o h _ n => f.h a o h n, fun a h1 h2 _ => f.nw a h1 h2, f.i, fun a z => (f.fp a z).elim .inl fun q => .inr (.inl q), f.kp, f.out⟩
/-- a statement of trees leaves what stands beside them -/
theorem FrSW.lift (x : EnvW Ω s G H σ ρ) (x2 : EnvOk G2 H2 σ2 ρ2) (f : FrS σ ρ G H σ2 ρ2 G2 H2) : FrSW Ω s σ ρ G H s σ2 ρ2 G2 H2 ∧ EnvW Ω s G2 H2 σ2 ρ2 := by
  have hh : ∀ a o, Ω.F s a → H a = some o → H2 a = some o := fun a o z h => f.h a o h (x.o a z)
  refine ⟨⟨f.g, fun a o h n _ => f.h a o h n, f.nw, f.ow, f.ob, fun a z => .inl z, fun a z => ?_⟩, ⟨x2, Ω.ext s H H2 x.i hh, fun a z => f.nw a (Ω.has s H a x.i z) (x.g a z) (x.o a z), fun a z w => ?_⟩⟩
  · cases e : H a with
    | none => exact absurd e (Ω.has s H a x.i z)
    | some o => rw [hh a o z e]; exact fun z => nomatch z
  · rcases f.ow a w with q | q
    · exact x.o a z q
    · exact Ω.has s H a x.i z q
theorem FrRW.lift (x : EnvW Ω s G H σ ρ) (f : FrR σ ρ G H G2 H2) : FrRW Ω s σ ρ G H s G2 H2 := by
  have hh : ∀ a o, Ω.F s a → H a = some o → H2 a = some o := fun a o z h => f.h a o h (x.o a z)
  refine ⟨f.g, f.gh, fun a o h n _ => f.h a o h n, f.nw, Ω.ext s H H2 x.i hh, fun a z => .inl z, fun a z => ?_, fun a z => f.nw a (Ω.has s H a x.i z) (x.g a z) (x.o a z)⟩
  cases e : H a with
  | none => exact absurd e (Ω.has s H a x.i z)
  | some o => rw [hh a o z e]; exact fun z => nomatch z
theorem FrSW.sub (x : EnvW Ω s G H σ ρ) (hs : ∀ a, Own σ2 ρ2 a → Own σ ρ a) (ho : ObK σ ρ σ2 ρ2) : FrSW Ω s σ ρ G H s σ2 ρ2 G H := ⟨Ex.refl _, fun a o h _ _ => h, fun a _ h _ => h, fun a z => .inl (hs a z), ho, fun a z => .inl z, fun a z => Ω.has s H a x.i z⟩
end
/-! ### readings -/
section
variable {τ : Type} (Ω : Om τ)
/-- what may come of it: a promise about all that may come -/
abbrev WF (τ β : Type) := Env → τ → (β → τ → Prop) → Prop
def PuWS (t : TE) (φ : WF τ D) : Prop := ∀ ρ s R, φ ρ s R → ∀ (G H : Hp) (σ : St), EnvW Ω s G H σ ρ → ∀ Q : VK, (∀ d v s2 G2 H2, R d s2 → FrW Ω s G H s2 G2 H2 → Rep G2 d v → Q v H2) → t σ H Q
def TeWS (t : TT) (φ : WF τ Bool) : Prop := ∀ ρ s R, φ ρ s R → ∀ (G H : Hp) (σ : St), EnvW Ω s G H σ ρ → ∀ Q : Bool → Hp → Prop, (∀ b s2 G2 H2, R b s2 → FrW Ω s G H s2 G2 H2 → Q b H2) → t σ H Q
def ArWS (t : TA) (φ : WF τ (List D)) : Prop := ∀ ρ s R, φ ρ s R → ∀ (G H : Hp) (σ : St), EnvW Ω s G H σ ρ → ∀ Q : List V → Hp → Prop, (∀ ds vs s2 G2 H2, R ds s2 → FrW Ω s G H s2 G2 H2 → Reps G2 ds vs → Q vs H2) → t σ H Q
/-- a new thing of its own: its root may be written to -/
def OwWS (t : TE) (φ : WF τ D) : Prop := ∀ ρ s R, φ ρ s R → ∀ (G H : Hp) (σ : St), EnvW Ω s G H σ ρ → ∀ Q : VK, (∀ d p o s2 G2 H2, R d s2 → FrW Ω s G H s2 G2 H2 → H p = none → G2 p = none → ¬ Ω.F s2 p → H2 p = some o → Top G2 d o → Q (.ref p) H2) → t σ H Q
structure PuW (X : Cx) (e : Expr) (t : TE) (φ : WF τ D) : Prop where
  pe : PE X e t
  ev : PuWS Ω t φ
structure OwW (X : Cx) (e : Expr) (t : TE) (φ : WF τ D) : Prop where
  pe : PE X e t
  ev : OwWS Ω t φ
structure TeW (X : Cx) (e : Expr) (t : TT) (φ : WF τ Bool) : Prop where
  pt : PT X e t
  ev : TeWS Ω t φ
structure TwW (X : Cx) (e : Expr) (t : TT) (φ : WF τ Bool) : Prop where
  pw : PW X e t
  ev : TeWS Ω t φ
structure ArW (X : Cx) (es : List Expr) (t : TA) (φ : WF τ (List D)) : Prop where
  pa : PA X es t
  ev : ArWS Ω t φ
/-- outcomes of statements -/
inductive Ou where
  | nx (ρ : Env)
  | rt (d : D)
  | bk (ρ : Env)
  | ct (ρ : Env)
  | rz (ρ : Env) (c : Value) (ns : List Str) (ds : List D)
def EndW (De : Ends) (W : WX) (s : τ) (σ : St) (ρ : Env) (G H : Hp) : Ou → τ → Prop
  | .nx ρ2, s2 => ∀ σ2 G2 H2, EnvW Ω s2 G2 H2 σ2 ρ2 → FrSW Ω s σ ρ G H s2 σ2 ρ2 G2 H2 → De.nx σ2 H2
  | .bk ρ2, s2 => ∀ σ2 G2 H2, EnvW Ω s2 G2 H2 σ2 ρ2 → FrSW Ω s σ ρ G H s2 σ2 ρ2 G2 H2 → De.bk σ2 H2
  | .ct ρ2, s2 => ∀ σ2 G2 H2, EnvW Ω s2 G2 H2 σ2 ρ2 → FrSW Ω s σ ρ G H s2 σ2 ρ2 G2 H2 → De.ct σ2 H2
  | .rt d, s2 => ∀ v G2 H2, FrRW Ω s σ ρ G H s2 G2 H2 → Rep G2 d v → De.rt v H2
  | .rz ρ2 c ns ds, s2 => ∀ σ2 G2 H2 xo, EnvW Ω s2 G2 H2 σ2 ρ2 → FrSW Ω s σ ρ G H s2 σ2 ρ2 G2 H2 → ((xo = none ∧ ns = []) ∨ ∃ dx us, xo = some dx ∧ H2 dx = some (.xd (ns.zip us)) ∧ ns.length = ds.length ∧ Reps G2 ds us) → W c xo σ2 H2
def StWS (W : WX) (t : TS) (Φ : WF τ Ou) : Prop := ∀ ρ s R, Φ ρ s R → ∀ (G H : Hp) (σ : St), EnvW Ω s G H σ ρ → ∀ De : Ends, (∀ o s2, R o s2 → EndW Ω De W s σ ρ G H o s2) → t De σ H
structure StW (W : WX) (X : Cx) (st : Stmt) (t : TS) (Φ : WF τ Ou) : Prop where
  ps : PS X st t
  ev : StWS Ω W t Φ
structure SsW (W : WX) (X : Cx) (st : List Stmt) (t : TS) (Φ : WF τ Ou) : Prop where
  ps : PSs X st t
  ev : StWS Ω W t Φ
def ItWS (wi : TI) (ψ : WF τ (List D)) : Prop := ∀ ρ s R, ψ ρ s R → ∀ (G H : Hp) (σ : St), EnvW Ω s G H σ ρ → ∀ Rr : It → Hp → Prop,
  (∀ ds s1 J G2 H2 (Γ : Hp → Prop) Y, R ds s1 → FrW Ω s G H s1 G2 H2 → Walk J ds.length Γ Y → (∀ H', Ex G2 H' → Γ H') →
    (∀ i H' x H'' G', i < ds.length → Ex G2 G' → Ex G' H' → Y i H' x H'' → ∃ d G'', ds[i]? = some d ∧ Fr G' H' G'' H'' ∧ Rep G'' d x) → Rr J H2) → wi σ H Rr
structure ItW (X : Cx) (tg e : Expr) (wi : TI) (ψ : WF τ (List D)) : Prop where
  pi : PI X tg e wi
  ev : ItWS Ω wi ψ
end
/-! ### what is one way only -/
section
variable {τ β : Type} {Ω : Om τ} {X : Cx} {W : WX} {e tg : Expr} {es : List Expr} {t : TE} {tt : TT} {tr : TA} {ts : TS} {wi : TI} {φ : Env → Option D} {χ : Env → Option Bool} {ψ : Env → Option (List D)} {Φ : Env → Option Out} {st : Stmt} {ss : List Stmt}
def lf (φ : Env → Option β) : WF τ β := fun ρ s R => ∃ d, φ ρ = some d ∧ R d s
def Out.w : Out → Ou
  | .nx ρ => .nx ρ
  | .rt d => .rt d
  | .bk ρ => .bk ρ
  | .ct ρ => .ct ρ
def lfS (Φ : Env → Option Out) : WF τ Ou := fun ρ s R => ∃ o, Φ ρ = some o ∧ R o.w s
theorem PuD.w (h : PuD X e t φ) : PuW Ω X e t (lf φ) := ⟨h.pe, fun ρ s R ⟨d, e1, r⟩ G H σ x Q k => h.ev ρ d e1 G H σ x.x Q fun v G2 H2 f q => k d v s G2 H2 r (.of x f) q⟩
theorem TeD.w (h : TeD X e tt χ) : TeW Ω X e tt (lf χ) := ⟨h.pt, fun ρ s R ⟨d, e1, r⟩ G H σ x Q k => h.ev ρ d e1 G H σ x.x Q fun G2 H2 f => k d s G2 H2 r (.of x f)⟩
theorem ArD.w (h : ArD X es tr ψ) : ArW Ω X es tr (lf ψ) := ⟨h.pa, fun ρ s R ⟨d, e1, r⟩ G H σ x Q k => h.ev ρ d e1 G H σ x.x Q fun v G2 H2 f q => k d v s G2 H2 r (.of x f) q⟩
theorem OwD.w (h : OwD X e t ψ) : OwW Ω X e t (lf fun ρ => (ψ ρ).map (D.seq true)) := ⟨h.pe, fun ρ s R ⟨d, e1, r⟩ G H σ x Q k => by
  obtain ⟨ds, e2, rfl⟩ := Option.map_eq_some_iff.mp e1
  refine h.ev ρ ds e2 G H σ x.x Q fun p us G2 H2 f n1 n2 h2 l q => k _ p _ s G2 H2 r (.of x f) n1 n2 (fun z => Ω.has s H p x.i z n1) h2 ⟨us, rfl, l, q⟩⟩
theorem ItD.w (h : ItD X tg e wi ψ) : ItW Ω X tg e wi (lf ψ) := ⟨h.pi, fun ρ s R ⟨d, e1, r⟩ G H σ x Q k => h.ev ρ d e1 G H σ x.x Q fun J G2 H2 Γ Y f wk hΓ hY => k d s J G2 H2 Γ Y r (.of x f) wk hΓ hY⟩
theorem end_lift {De : Ends} {s : τ} {σ : St} {ρ : Env} {G H : Hp} (x : EnvW Ω s G H σ ρ) {o : Out} (k : EndW Ω De W s σ ρ G H o.w s) : EndOk De σ ρ G H o := by
  cases o with
  | nx ρ2 => exact fun σ2 G2 H2 x2 f => let ⟨a, b⟩ := FrSW.lift x x2 f; k σ2 G2 H2 b a
  | bk ρ2 => exact fun σ2 G2 H2 x2 f => let ⟨a, b⟩ := FrSW.lift x x2 f; k σ2 G2 H2 b a
  | ct ρ2 => exact fun σ2 G2 H2 x2 f => let ⟨a, b⟩ := FrSW.lift x x2 f; k σ2 G2 H2 b a
  | rt d => exact fun v G2 H2 f r => k v G2 H2 (FrRW.lift x f) r
theorem StD.w (h : StD X st ts Φ) : StW Ω W X st ts (lfS Φ) := ⟨h.ps, fun ρ s R ⟨o, e1, r⟩ G H σ x De k => h.ev ρ o e1 G H σ x.x De (end_lift x (k _ s r))⟩
theorem SsD.w (h : SsD X ss ts Φ) : SsW Ω W X ss ts (lfS Φ) := ⟨h.ps, fun ρ s R ⟨o, e1, r⟩ G H σ x De k => h.ev ρ o e1 G H σ x.x De (end_lift x (k _ s r))⟩
end
end L2.Tr

/-! Trees beside something that changes: expressions. -/
namespace L2.Tr
open PySem PySem.Spec PyProof.Rows
section
variable {τ β : Type} {Ω : Om τ} {X : Cx} {W : WX} {e a b c : Expr} {es rest : List Expr} {t ta tb : TE} {tt tu : TT} {tr : TA} {φ φa φb : WF τ D} {χ ξ : WF τ Bool} {ψ : WF τ (List D)} {pos : Pos}
def b2W (op : D → D → Option β) (φa φb : WF τ D) : WF τ β := fun ρ s R => φa ρ s fun x s1 => φb ρ s1 fun y s2 => ∃ z, op x y = some z ∧ R z s2
theorem op_evW {r : R2} {op : D → D → Option D} (hd : R2D r op) (ha : PuWS Ω ta φa) (hb : PuWS Ω tb φb) : PuWS Ω (tOp r ta tb) (b2W op φa φb) := fun ρ s R h G H σ x Q k => by
  refine ha ρ s _ h G H σ x _ fun d1 v1 s1 G1 H1 h1 f1 r1 => ?_
  refine hb ρ s1 _ h1 G1 H1 σ (x.mono f1) _ fun d2 v2 s2 G2 H2 h2 f2 r2 => ?_
  obtain ⟨z, e, h3⟩ := h2
  have x2 := (x.mono f1).mono f2
  exact hd d1 d2 z e G2 H2 v1 v2 f2.gh (.inl (r1.mono f2.g)) (.inl r2) Q fun v G3 H3 f3 r3 => k z v s2 G3 H3 h3 (f1.trans (f2.trans (.of x2 f3))) r3
theorem pw_op {op : Operator} {r : R2} {o : D → D → Option D} (ho : OpR X (binaryOp op) r) (hd : R2D r o) (ha : PuW Ω X a ta φa) (hb : PuW Ω X b tb φb) : PuW Ω X (.BinOp a op b pos) (tOp r ta tb) (b2W o φa φb) := ⟨pe_op ho ha.pe hb.pe, op_evW hd ha.ev hb.ev⟩
theorem pw_ix (ha : PuW Ω X a ta φa) (hb : PuW Ω X b tb φb) (hs : PlainIx b) : PuW Ω X (.Subscript a b pos) (tOp (rIx X.K) ta tb) (b2W ixD φa φb) := ⟨pe_ix ix_seq ha.pe hb.pe hs, op_evW r2_ix ha.ev hb.ev⟩
def asW (φ : WF τ D) : WF τ Bool := fun ρ s R => φ ρ s fun d s1 => ∃ b, asB d = some b ∧ R b s1
theorem te_testW (h : PuWS Ω t φ) : TeWS Ω (tTest t) (asW φ) := fun ρ s R hh G H σ x Q k => by
  refine h ρ s _ hh G H σ x _ fun d v s1 G1 H1 ⟨b, e, h1⟩ f1 r1 => ?_
  unfold asB at e
  split at e
  · cases e
    obtain ⟨rfl, _⟩ := r1.un_lf
    exact ⟨_, rfl, k _ s1 G1 H1 h1 f1⟩
  · cases e
theorem tw_cmp {op : CmpOp} {r : R2} {o : D → D → Option D} (ho : OpR X (compareOp op) r) (hd : R2D r o) (hm : behindInMarks op b = false) (ha : PuW Ω X a ta φa) (hb : PuW Ω X b tb φb) : TeW Ω X (.Compare a [op] [b] pos) (tTest (tOp r ta tb)) (asW (b2W o φa φb)) := ⟨pt_cmpR ho ha.pe hb.pe hm, te_testW (op_evW hd ha.ev hb.ev)⟩
def truW (φ : WF τ D) : WF τ Bool := fun ρ s R => φ ρ s fun d s1 => ∃ b, truD d = some b ∧ R b s1
def andW (χ ξ : WF τ Bool) : WF τ Bool := fun ρ s R => χ ρ s fun k s1 => if k = true then ξ ρ s1 R else R false s1
def orW (χ ξ : WF τ Bool) : WF τ Bool := fun ρ s R => χ ρ s fun k s1 => if k = true then R true s1 else ξ ρ s1 R
def notW (χ : WF τ Bool) : WF τ Bool := fun ρ s R => χ ρ s fun k s1 => R (!k) s1
theorem TwW.te (h : TwW Ω X a tt χ) : TeW Ω X a tt χ := ⟨h.pw.pt, h.ev⟩
theorem tww_and1 (h : TeW Ω X a tt χ) : TwW Ω X (.BoolOp .And [a] pos) tt χ := ⟨pw_and1 h.pt, h.ev⟩
theorem tww_or1 (h : TeW Ω X a tt χ) : TwW Ω X (.BoolOp .Or [a] pos) tt χ := ⟨pw_or1 h.pt, h.ev⟩
theorem tww_and (h : TeW Ω X a tt χ) (h2 : TwW Ω X (.BoolOp .And (b :: rest) pos) tu ξ) : TwW Ω X (.BoolOp .And (a :: b :: rest) pos) (tAnd tt tu) (andW χ ξ) := ⟨pw_and h.pt h2.pw, fun ρ s R hh G H σ x Q k => by
  refine h.ev ρ s _ hh G H σ x _ fun b s1 G1 H1 h1 f1 => ?_
  cases b with
  | true => exact h2.ev ρ s1 R h1 G1 H1 σ (x.mono f1) Q fun b s2 G2 H2 h2 f2 => k b s2 G2 H2 h2 (f1.trans f2)
  | false => exact k _ s1 G1 H1 h1 f1⟩
theorem tww_or (h : TeW Ω X a tt χ) (h2 : TwW Ω X (.BoolOp .Or (b :: rest) pos) tu ξ) : TwW Ω X (.BoolOp .Or (a :: b :: rest) pos) (tOr tt tu) (orW χ ξ) := ⟨pw_or h.pt h2.pw, fun ρ s R hh G H σ x Q k => by
  refine h.ev ρ s _ hh G H σ x _ fun b s1 G1 H1 h1 f1 => ?_
  cases b with
  | false => exact h2.ev ρ s1 R h1 G1 H1 σ (x.mono f1) Q fun b s2 G2 H2 h2 f2 => k b s2 G2 H2 h2 (f1.trans f2)
  | true => exact k _ s1 G1 H1 h1 f1⟩
def ifW {β : Type} (χ : WF τ Bool) (φ ψ : WF τ β) : WF τ β := fun ρ s R => χ ρ s fun k s1 => if k = true then φ ρ s1 R else ψ ρ s1 R
theorem pw_if (h : TeW Ω X c tt χ) (ha : PuW Ω X a ta φa) (hb : PuW Ω X b tb φb) : PuW Ω X (.IfExp c a b pos) (tIf tt ta tb) (ifW χ φa φb) := ⟨pe_ifExp h.pt ha.pe hb.pe, fun ρ s R hh G H σ x Q k => by
  refine h.ev ρ s _ hh G H σ x _ fun b s1 G1 H1 h1 f1 => ?_
  cases b with
  | true => exact ha.ev ρ s1 R h1 G1 H1 σ (x.mono f1) Q fun d v s2 G2 H2 h2 f2 r => k d v s2 G2 H2 h2 (f1.trans f2) r
  | false => exact hb.ev ρ s1 R h1 G1 H1 σ (x.mono f1) Q fun d v s2 G2 H2 h2 f2 r => k d v s2 G2 H2 h2 (f1.trans f2) r⟩
/-! arguments, displays -/
def nilW : WF τ (List D) := fun _ s R => R [] s
def consW (φ : WF τ D) (ψ : WF τ (List D)) : WF τ (List D) := fun ρ s R => φ ρ s fun x s1 => ψ ρ s1 fun xs s2 => R (x :: xs) s2
theorem aw_nil : ArW Ω X [] tNil nilW := ⟨pa_nil, fun ρ s R h G H σ x Q k => k [] [] s G H h (.refl x) .nil⟩
theorem aw_cons (h : PuW Ω X e t φ) (r : ArW Ω X es tr ψ) (hs : starEach (e :: es) X.env = (false, eval e X.env) :: starEach es X.env := by rfl) : ArW Ω X (e :: es) (tCons t tr) (consW φ ψ) := ⟨pa_cons h.pe r.pa hs, fun ρ s R hh G H σ x Q k => by
  refine h.ev ρ s _ hh G H σ x _ fun d v s1 G1 H1 h1 f1 r1 => ?_
  exact r.ev ρ s1 _ h1 G1 H1 σ (x.mono f1) _ fun ds vs s2 G2 H2 h2 f2 r2 => k _ _ s2 G2 H2 h2 (f1.trans f2) (.cons (r1.mono f2.g) r2)⟩
def ap1W {β : Type} (op : List D → Option β) (ψ : WF τ (List D)) : WF τ β := fun ρ s R => ψ ρ s fun ds s1 => ∃ z, op ds = some z ∧ R z s1
theorem reps_views {G H : Hp} : ∀ {ds : List D} {vs : List V}, Reps G ds vs → Views G H ds vs
  | [], vs, h => h
  | d :: ds, vs, h => by
    obtain ⟨u, r, e, h1, h2⟩ := h.un
    exact ⟨u, r, e, .inl h1, reps_views h2⟩
theorem cb_evW {r : List V → Hp → VK → Prop} {op : List D → Option D} (hd : R1D r op) (h : ArWS Ω tr ψ) : PuWS Ω (tCB r tr) (ap1W op ψ) := fun ρ s R hh G H σ x Q k => by
  refine h ρ s _ hh G H σ x _ fun ds vs s1 G1 H1 ⟨z, e, h1⟩ f1 r1 => ?_
  exact hd ds z e G1 H1 vs f1.gh (reps_views r1) Q fun v G2 H2 f2 r2 => k z v s1 G2 H2 h1 (f1.trans (.of (x.mono f1) f2)) r2
theorem pw_cty {x T : _} {p : Pos} {r : List V → Hp → VK → Prop} {op : List D → Option D} (hc : CallR X (.type T) r) (hd : R1D r op) (hg : Gl X x) (hm : X.mg x = none) (hv : bootBuiltins x = some (.type T)) (ha : ArW Ω X (e :: es) tr ψ) (hn : x ≠ "__name__" := by decide) (hdb : (x == ("__debug__" : Str)) = false := by decide)
    (he : starEach (e :: es) X.env = (false, eval e X.env) :: starEach es X.env := by rfl) (hpl : (backTo pos (starEach es X.env)).any (·.1) = false := by rfl) : PuW Ω X (.Call (.Name x p) (e :: es) [] pos) (tCB r tr) (ap1W op ψ) := ⟨pe_callTy hc hg hm hv ha.pa hn hdb he hpl, cb_evW hd ha.ev⟩
def tupW (ψ : WF τ (List D)) : WF τ D := fun ρ s R => ψ ρ s fun ds s1 => ds.length ≤ Lim ∧ R (.seq false ds) s1
def lstW (ψ : WF τ (List D)) : WF τ D := fun ρ s R => ψ ρ s fun ds s1 => ds.length ≤ Lim ∧ R (.seq true ds) s1
theorem pw_tup {x1 : _} (h : ArW Ω X es tr ψ) : PuW Ω X (.Tuple es x1 pos) (tTup tr) (tupW ψ) := ⟨pe_tup h.pa, fun ρ s R hh G H σ x Q k => by
  refine h.ev ρ s _ hh G H σ x _ fun ds vs s1 G1 H1 ⟨hl, h1⟩ f1 r1 => ⟨by rw [r1.len]; exact lim_line (by omega), fun p np => ?_⟩
  exact k _ _ s1 _ _ h1 (f1.trans (.of (x.mono f1) (.new f1.gh np))) (.sq (b := false) upd_same hl (r1.mono (Ex.new (f1.gh.back np))))⟩
theorem oww_lst (h : ArW Ω X es tr ψ) : OwW Ω X (.List es pos) (tLst tr) (lstW ψ) := ⟨pe_lst h.pa, fun ρ s R hh G H σ x Q k => by
  refine h.ev ρ s _ hh G H σ x _ fun ds vs s1 G1 H1 ⟨hl, h1⟩ f1 r1 => ⟨by rw [r1.len]; exact lim_line (by omega), fun p np => ?_⟩
  have x1 := x.mono f1
  refine k _ p _ s1 G1 _ h1 (f1.trans (.of x1 (.tmp f1.gh np))) ?_ (f1.gh.back np) (fun z => Ω.has s1 H1 p x1.i z np) upd_same ⟨vs, rfl, hl, r1⟩
  cases e : H p with
  | none => rfl
  | some o =>
    by_cases z : Ω.F s p
    · exact absurd np (f1.kp p z)
    · rw [f1.h p o e z] at np; cases np⟩
/-- what is new behind was none ahead -/
theorem FrW.back {s s2 : τ} {G H G2 H2 : Hp} (f : FrW Ω s G H s2 G2 H2) {p : Addr} (n : H2 p = none) : H p = none := by
  cases e : H p with
  | none => rfl
  | some o =>
    by_cases z : Ω.F s p
    · exact absurd n (f.kp p z)
    · rw [f.h p o e z] at n; cases n
/-- an own thing is kept -/
theorem OwW.pu (h : OwW Ω X e t φ) : PuW Ω X e t φ := ⟨h.pe, fun ρ s R hh G H σ x Q k => by
  refine h.ev ρ s R hh G H σ x Q fun d p o s2 G2 H2 h2 f n1 n2 n3 hp r => ?_
  have g2 : Ex (upd G2 p o) H2 := fun a u z => by
    by_cases q : a = p
    · rw [q, upd_same] at z; rw [q]; cases z; exact hp
    · rw [upd_ne q] at z; exact f.gh _ _ z
  refine k d (.ref p) s2 (upd G2 p o) H2 h2 ⟨f.g.trans (Ex.new n2), g2, f.h, fun a h1 h2 => ?_, f.i, f.fp, f.kp, fun a z => ?_⟩ (r.rep (Ex.new n2) upd_same)
  · have : a ≠ p := fun z => h1 (z ▸ n1)
    rw [upd_ne this]
    exact f.nw a h1 h2
  · have : a ≠ p := fun w => n3 (w ▸ z)
    rw [upd_ne this]
    exact f.out a z⟩
/-- {} -/
theorem oww_dnew : OwW Ω X (.Dict [] [] pos) tDNewK (fun _ s R => R (.dct [] []) s) := ⟨pe_dnewK, fun ρ s R hh G H σ x Q k => fun p np => k _ p _ s G _ hh (.of x (.tmp x.x.gh np)) np (x.x.gh.back np) (fun z => Ω.has s H p x.i z np) upd_same ⟨[], rfl, rfl, by decide, .nil⟩⟩
/-- a built-in call that makes an own list -/
theorem oww_cty {x T : _} {p : Pos} {r : List V → Hp → VK → Prop} {op : List D → Option (List D)} (hc : CallR X (.type T) r) (hd : R1O r op) (hg : Gl X x) (hm : X.mg x = none) (hv : bootBuiltins x = some (.type T)) (ha : ArW Ω X (e :: es) tr ψ) (hn : x ≠ "__name__" := by decide) (hdb : (x == ("__debug__" : Str)) = false := by decide)
    (he : starEach (e :: es) X.env = (false, eval e X.env) :: starEach es X.env := by rfl) (hpl : (backTo pos (starEach es X.env)).any (·.1) = false := by rfl) : OwW Ω X (.Call (.Name x p) (e :: es) [] pos) (tCB r tr) (fun ρ s R => ap1W op ψ ρ s fun ds s1 => R (.seq true ds) s1) := ⟨pe_callTy hc hg hm hv ha.pa hn hdb he hpl, fun ρ s R hh G H σ x Q k => by
  refine ha.ev ρ s _ hh G H σ x _ fun ds vs s1 G1 H1 ⟨z, ee, h1⟩ f1 r1 => ?_
  have x1 := x.mono f1
  exact hd ds z ee G1 H1 vs f1.gh (reps_views r1) Q fun q us G2 H2 f2 n1 n2 hp l r2 => k _ q _ s1 G2 H2 h1 (f1.trans (.of x1 f2)) (f1.back n1) n2 (fun w => Ω.has s1 H1 q x1.i w n1) hp ⟨us, rfl, l, r2⟩⟩
/-! calls -/
/-- what a def promises beside Ω -/
def spW (Ω : Om τ) (f : List D → τ → (D → τ → Prop) → Prop) : Sp := fun vs H Q _ => ∃ (s : τ) (G : Hp) (ds : List D) (R : D → τ → Prop), Ex G H ∧ Ω.I s H ∧ (∀ a, Ω.F s a → G a = none) ∧ Reps G ds vs ∧ f ds s R ∧
  ∀ d v s2 G2 H2, R d s2 → FrW Ω s G H s2 G2 H2 → Rep G2 d v → Q v H2
/-- .. that hands back a thing of its own -/
def spWO (Ω : Om τ) (f : List D → τ → (D → τ → Prop) → Prop) : Sp := fun vs H Q _ => ∃ (s : τ) (G : Hp) (ds : List D) (R : D → τ → Prop), Ex G H ∧ Ω.I s H ∧ (∀ a, Ω.F s a → G a = none) ∧ Reps G ds vs ∧ f ds s R ∧
  ∀ d p o s2 G2 H2, R d s2 → FrW Ω s G H s2 G2 H2 → H p = none → G2 p = none → ¬ Ω.F s2 p → H2 p = some o → Top G2 d o → Q (.ref p) H2
structure FnE (P : Program) (w : World) (K : PySem.W.Frag) (mg : Str → Option Value) (base : Heap) (x : Str) (k : Nat) (sp : Sp) : Prop where
  ex : ∃ (a : Addr) (fd : FuncData) (ps : List Str), FnOk P w K mg base CX0 k a fd ps sp ∧ mg x = some (.ref a) ∧ PySem.W.keepIn K (.ref a) = true ∧ Binds K fd ps []
def callW (f : List D → τ → (D → τ → Prop) → Prop) (ψ : WF τ (List D)) : WF τ D := fun ρ s R => ψ ρ s fun ds s1 => f ds s1 R
theorem pw_call {x : Str} {k : Nat} {sp : Sp} {f : List D → τ → (D → τ → Prop) → Prop} {p : Pos} (h : FnE X.prog X.w X.K X.mg X.base x k sp) (sub : ∀ vs H Q, spW Ω f vs H Q E0 → sp vs H Q E0) (hr : Room k X.A) (hg : Gl X x) (ha : ArW Ω X (e :: es) tr ψ) (hdb : (x == ("__debug__" : Str)) = false := by decide)
    (he : starEach (e :: es) X.env = (false, eval e X.env) :: starEach es X.env := by rfl) (hpl : (backTo pos (starEach es X.env)).any (·.1) = false := by rfl) :
    PuW Ω X (.Call (.Name x p) (e :: es) [] pos) (tCall sp [] E0 tr) (callW f ψ) := by
  obtain ⟨a, fd, ps, F, h1, h2, h3⟩ := h.ex
  refine ⟨pe_call F hr hg h1 h2 h3 .nil pass0 ha.pa hdb he hpl, fun ρ s R hh G H σ x Q k => ?_⟩
  refine ha.ev ρ s _ hh G H σ x _ fun ds vs s1 G1 H1 h1 f1 r1 => ?_
  rw [List.append_nil]
  exact sub vs H1 Q ⟨s1, G1, ds, R, f1.gh, f1.i, f1.out, r1, h1, fun d v s2 G2 H2 q f2 r2 => k d v s2 G2 H2 q (f1.trans f2) r2⟩
theorem ow_call {x : Str} {k : Nat} {sp : Sp} {f : List D → τ → (D → τ → Prop) → Prop} {p : Pos} (h : FnE X.prog X.w X.K X.mg X.base x k sp) (sub : ∀ vs H Q, spWO Ω f vs H Q E0 → sp vs H Q E0) (hr : Room k X.A) (hg : Gl X x) (ha : ArW Ω X (e :: es) tr ψ) (hdb : (x == ("__debug__" : Str)) = false := by decide)
    (he : starEach (e :: es) X.env = (false, eval e X.env) :: starEach es X.env := by rfl) (hpl : (backTo pos (starEach es X.env)).any (·.1) = false := by rfl) :
    OwW Ω X (.Call (.Name x p) (e :: es) [] pos) (tCall sp [] E0 tr) (callW f ψ) := by
  obtain ⟨a, fd, ps, F, h1, h2, h3⟩ := h.ex
  refine ⟨pe_call F hr hg h1 h2 h3 .nil pass0 ha.pa hdb he hpl, fun ρ s R hh G H σ x Q k => ?_⟩
  refine ha.ev ρ s _ hh G H σ x _ fun ds vs s1 G1 H1 h1 f1 r1 => ?_
  rw [List.append_nil]
  exact sub vs H1 Q ⟨s1, G1, ds, R, f1.gh, f1.i, f1.out, r1, h1, fun d p o s2 G2 H2 q f2 n1 n2 n3 hp r2 => k d p o s2 G2 H2 q (f1.trans f2) (f1.back n1) n2 n3 hp r2⟩
/-- a def of trees alone, called beside Ω -/
theorem Fn.toE {P : Program} {w : World} {K : PySem.W.Frag} {mg : Str → Option Value} {base : Heap} {x : Str} {k n : Nat} {f : List D → Option D} (h : Fn P w K mg base x k n f) : FnE P w K mg base x k (spP f) := let ⟨a, fd, ps, F, h1, h2, h3⟩ := h.ex; ⟨a, fd, ps, F, h1, h2, h3⟩
/-- the promise of a def of trees, beside Ω -/
def detW (f : List D → Option D) : List D → τ → (D → τ → Prop) → Prop := fun ds s R => ∃ d, f ds = some d ∧ R d s
theorem subP {f : List D → Option D} : ∀ vs H Q, spW Ω (detW f) vs H Q E0 → spP f vs H Q E0 := fun vs H Q ⟨s, G, ds, R, g, i, o, r, ⟨d, e, h⟩, k⟩ =>
  ⟨G, ds, d, g, r, e, fun v G2 H2 f2 r2 => k d v s G2 H2 h ⟨f2.g, f2.gh, fun a o z _ => f2.h a o z, f2.nw, Ω.ext s H H2 i fun a o _ z => f2.h a o z, fun a z => .inl z, fun a z n => (by
    cases q : H a with
    | none => exact Ω.has s H a i z q
    | some u =>
      rw [f2.h a u q] at n
      cases n), fun a z => f2.nw a (Ω.has s H a i z) (o a z)⟩ r2⟩
end
end L2.Tr

/-! Trees beside something that changes: statements. -/
namespace L2.Tr
open PySem PySem.Spec PyProof.Rows
def isObj : D → Bool
  | .obj _ _ _ => true
  | _ => false
section
variable {τ : Type} {Ω : Om τ}
/-- v may stand in a slot as sl; H0: the heap ahead of its making -/
def HasSl (Ω : Om τ) (s : τ) (G H H0 : Hp) : Sl → V → Prop
  | .pu d, v => Rep G d v
  | .ow d, v => ∃ p o, v = .ref p ∧ H0 p = none ∧ G p = none ∧ ¬ Ω.F s p ∧ H p = some o ∧ Top G d o ∧ isObj d = false
  | .un, _ => True
theorem HasSl.mono {s s2 : τ} {G H H0 G2 H2 : Hp} (f : FrW Ω s G H s2 G2 H2) : ∀ {sl : Sl} {v : V}, HasSl Ω s G H H0 sl v → HasSl Ω s2 G2 H2 H0 sl v
  | .pu d, v, h => Rep.mono f.g h
  | .un, v, h => trivial
  | .ow d, v, ⟨p, o, h1, h2, h3, h4, h5, h6, h7⟩ => ⟨p, o, h1, h2, f.nw p (by rw [h5]; exact fun z => nomatch z) h3, fun z => (f.fp p z).elim h4 fun q => (by rw [q] at h5; cases h5), f.h p o h5 h4, h6.mono f.g, h7⟩
theorem store_ok {s : τ} {G H H0 : Hp} {σ : St} {ρ : Env} (x : EnvW Ω s G H σ ρ) (h0 : ∀ a, Own σ ρ a → H0 a ≠ none) {sl : Sl} {v : V} (hs : HasSl Ω s G H H0 sl v) (i : Nat) :
    EnvW Ω s G H (σ.set i (some v)) (ρ.set i sl) ∧ (∀ a, Own (σ.set i (some v)) (ρ.set i sl) a → Own σ ρ a ∨ H0 a = none) ∧ ObK σ ρ (σ.set i (some v)) (ρ.set i sl) := by
  have sub : ∀ {sl' : Sl}, (∀ d, sl' ≠ .ow d) → ∀ a, Own (σ.set i (some v)) (ρ.set i sl') a → Own σ ρ a := fun {sl'} hn a ⟨j, d, h1, h2⟩ => by
    by_cases n : i = j
    · subst n
      by_cases hi : i < ρ.length
      · rw [List.getElem?_set_self hi] at h1; exact absurd (Option.some.inj h1) (hn d)
      · rw [List.getElem?_eq_none (by rw [List.length_set]; omega)] at h1; cases h1
    · rw [List.getElem?_set_ne n] at h1 h2
      exact ⟨j, d, h1, h2⟩
  cases sl with
  | pu d =>
    refine ⟨⟨x.x.setP hs i, x.i, x.g, fun a z w => x.o a z (own_setP x.x.len w)⟩, fun a z => .inl (own_setP x.x.len z), obk_set fun _ _ _ z => by cases z⟩
  | un =>
    have xx := x.x
    refine ⟨⟨⟨xx.gh, by rw [List.length_set, List.length_set]; exact xx.len, fun j d h => ?_, fun j d h => ?_, fun j k ds es p h1 h2 h3 h4 => ?_⟩, x.i, x.g, fun a z w => x.o a z (sub (fun _ z => by cases z) a w)⟩, fun a z => .inl (sub (fun _ z => by cases z) a z), obk_set fun _ _ _ z => by cases z⟩
    all_goals
      have un : ∀ {j : Nat} {q : Sl}, q ≠ .un → (ρ.set i .un)[j]? = some q → i ≠ j ∧ ρ[j]? = some q := fun {j q} hq e => by
        by_cases n : i = j
        · subst n
          by_cases hi : i < ρ.length
          · rw [List.getElem?_set_self hi] at e; exact absurd (Option.some.inj e).symm hq
          · rw [List.getElem?_eq_none (by rw [List.length_set]; omega)] at e; cases e
        · rw [List.getElem?_set_ne n] at e; exact ⟨n, e⟩
    · obtain ⟨n, e⟩ := un (fun z => by cases z) h
      rw [List.getElem?_set_ne n]; exact xx.pu j d e
    · obtain ⟨n, e⟩ := un (fun z => by cases z) h
      rw [List.getElem?_set_ne n]; exact xx.ow j d e
    · obtain ⟨n1, e1⟩ := un (fun z => by cases z) h1
      obtain ⟨n2, e2⟩ := un (fun z => by cases z) h2
      rw [List.getElem?_set_ne n1] at h3
      rw [List.getElem?_set_ne n2] at h4
      exact xx.inj j k ds es p e1 e2 h3 h4
  | ow d =>
    obtain ⟨p, o, rfl, g1, g2, g3, g4, g5, g6⟩ := hs
    have new : ∀ a, Own (σ.set i (some (.ref p))) (ρ.set i (.ow d)) a → Own σ ρ a ∨ a = p := fun a z => own_setO x.x.len z
    refine ⟨⟨x.x.setO i g2 g4 g5 fun j es _ h1 h2 => h0 p ⟨j, es, h1, h2⟩ g1, x.i, x.g, fun a z w => ?_⟩, fun a z => ?_, obk_set fun C ns ds z => by injection z with z; rw [z] at g6; cases g6⟩
    · rcases new a w with q | q
      · exact x.o a z q
      · exact g3 (q ▸ z)
    · rcases new a z with q | q
      · exact .inl q
      · exact .inr (q ▸ g1)
end
section
variable {τ : Type} (Ω : Om τ)
def SvWS (t : TE) (φ : WF τ Sl) : Prop := ∀ ρ s R, φ ρ s R → ∀ (G H : Hp) (σ : St), EnvW Ω s G H σ ρ → ∀ Q : VK, (∀ sl v s2 G2 H2, R sl s2 → FrW Ω s G H s2 G2 H2 → HasSl Ω s2 G2 H2 H sl v → Q v H2) → t σ H Q
structure SvW (X : Cx) (e : Expr) (t : TE) (φ : WF τ Sl) : Prop where
  pe : PE X e t
  ev : SvWS Ω t φ
end
section
variable {τ β : Type} {Ω : Om τ} {X : Cx} {W : WX} {e a b c tg : Expr} {es : List Expr} {t ta tb : TE} {tt tu' : TT} {tr : TA} {ts tu : TS} {φ φa φb : WF τ D} {χ ξ : WF τ Bool} {ψ : WF τ (List D)} {ζ ζ1 ζ2 ζ3 : WF τ Sl} {pos : Pos} {g : TG} {θ : D → Env → Option Env} {Φ Ψ : WF τ Ou} {st : Stmt} {sa sb rest : List Stmt} {wi : TI}
def svP (φ : WF τ D) : WF τ Sl := fun ρ s R => φ ρ s fun d s1 => R (.pu d) s1
def svO (φ : WF τ D) : WF τ Sl := fun ρ s R => φ ρ s fun d s1 => isObj d = false ∧ R (.ow d) s1
theorem PuW.sv (h : PuW Ω X e t φ) : SvW Ω X e t (svP φ) := ⟨h.pe, fun ρ s R hh G H σ x Q k => h.ev ρ s _ hh G H σ x Q fun d v s2 G2 H2 q f r => k _ v s2 G2 H2 q f r⟩
theorem OwW.sv (h : OwW Ω X e t φ) : SvW Ω X e t (svO φ) := ⟨h.pe, fun ρ s R hh G H σ x Q k => h.ev ρ s _ hh G H σ x Q fun d p o s2 G2 H2 q f n1 n2 n3 hp r => k _ _ s2 G2 H2 q.2 f ⟨p, o, rfl, n1, n2, n3, hp, r, q.1⟩⟩
/-! assignments -/
def setW (i : Nat) (ζ : WF τ Sl) : WF τ Ou := fun ρ s R => ζ ρ s fun sl s1 => R (.nx (ρ.set i sl)) s1
theorem own_ne {s : τ} {G H : Hp} {σ : St} {ρ : Env} (x : EnvW Ω s G H σ ρ) : ∀ a, Own σ ρ a → H a ≠ none := fun a h => own_some x.x h
theorem sw_set {i : Nat} {x : Str} {pos' : Pos} (h : SvW Ω X e t ζ) (hp : PE X e t → PS X (.Assign [.Name x pos'] e pos) (tAsg t (gName i))) : StW Ω W X (.Assign [.Name x pos'] e pos) (tAsg t (gName i)) (setW i ζ) := ⟨hp h.pe, fun ρ s R hh G H σ x De k => by
  refine h.ev ρ s _ hh G H σ x _ fun sl v s1 G1 H1 q f hs => ?_
  have x1 := x.mono f
  obtain ⟨y, o, ob⟩ := store_ok x1 (own_ne x) hs i
  refine k _ s1 q _ G1 H1 y ⟨f.g, fun a u h1 _ n => f.h a u h1 n, fun a h1 h2 _ => f.nw a h1 h2, o, ob, fun a z => (f.fp a z).elim .inl fun w => .inr (.inl w), f.kp⟩⟩
def asgW (φ : WF τ D) (θ : D → Env → Option Env) : WF τ Ou := fun ρ s R => φ ρ s fun d s1 => ∃ ρ2, θ d ρ = some ρ2 ∧ R (.nx ρ2) s1
theorem sw_asg (h : PuW Ω X e t φ) (hg : TgD X tg g θ) (hs : swapsWithSole [tg] e pos.line X.env = pure false := by rfl) (hw : swappedStores [tg] e X.env = pure none := by rfl)
    (h1 : (assignEach [tg] X.env).map (·.2) = [assign tg X.env] := by rfl) : StW Ω W X (.Assign [tg] e pos) (tAsg t g) (asgW φ θ) := ⟨ps_asg h.pe hg.pg hs hw h1, fun ρ s R hh G H σ x De k => by
  refine h.ev ρ s _ hh G H σ x _ fun d v s1 G1 H1 ⟨ρ2, e3, q⟩ f r => ?_
  have x1 := x.mono f
  refine hg.ev d ρ ρ2 e3 G1 H1 σ v x1.x r _ fun σ2 x2 o2 ob => ?_
  have fs := FrSW.sub x1 o2 ob
  exact k _ s1 q σ2 G1 H1 ⟨x2, x1.i, x1.g, fun a z w => x1.o a z (o2 a w)⟩ ((FrSW.of x f).trans x x1 fs)⟩
/-- a, b = .., .. -/
def par2W (i j : Nat) (ζ1 ζ2 : WF τ Sl) : WF τ Ou := fun ρ s R => ζ1 ρ s fun s1 t1 => ζ2 ρ t1 fun s2 t2 => R (.nx ((ρ.set i s1).set j s2)) t2
theorem own_sets {σ : St} {ρ : Env} {i : Nat} {v : V} {sl : Sl} {a : Addr} (h : Own (σ.set i (some v)) (ρ.set i sl) a) : Own σ ρ a ∨ v = .ref a := by
  obtain ⟨j, d, h1, h2⟩ := h
  by_cases n : i = j
  · subst n
    by_cases hi : i < σ.length
    · rw [List.getElem?_set_self hi] at h2; exact .inr (Option.some.inj (Option.some.inj h2))
    · rw [List.getElem?_eq_none (by rw [List.length_set]; omega)] at h2; cases h2
  · rw [List.getElem?_set_ne n] at h1 h2
    exact .inl ⟨j, d, h1, h2⟩
theorem sw_par2 {i j : Nat} {t1 t2 : TE} (h1 : SvW Ω X a t1 ζ1) (h2 : SvW Ω X b t2 ζ2) (hp : PA X [a, b] (tCons t1 (tCons t2 tNil)) → PS X st (tPar i j (tCons t1 (tCons t2 tNil))))
    (hs1 : starEach [b] X.env = (false, eval b X.env) :: starEach [] X.env := by rfl) (hs : starEach [a, b] X.env = (false, eval a X.env) :: starEach [b] X.env := by rfl) : StW Ω W X st (tPar i j (tCons t1 (tCons t2 tNil))) (par2W i j ζ1 ζ2) := ⟨hp (pa_cons h1.pe (pa_cons h2.pe pa_nil hs1) hs), fun ρ s R hh G H σ x De k => by
  refine h1.ev ρ s _ hh G H σ x _ fun sl1 v1 s1 G1 H1 q1 f1 r1 => ?_
  have x1 := x.mono f1
  refine h2.ev ρ s1 _ q1 G1 H1 σ x1 _ fun sl2 v2 s2 G2 H2 q2 f2 r2 => ⟨v1, v2, rfl, ?_⟩
  have x2 := x1.mono f2
  have f := f1.trans f2
  obtain ⟨y1, o1, b1⟩ := store_ok x2 (own_ne x) (r1.mono f2) i
  have o1' : ∀ c, Own (σ.set i (some v1)) (ρ.set i sl1) c → H1 c ≠ none := fun c z n => by
    rcases own_sets z with w | w
    · exact own_some x1.x w n
    · cases sl1 with
      | pu d =>
        rcases o1 c z with u | u
        · exact own_some x1.x u n
        · obtain ⟨j', d', z1, z2⟩ := z
          by_cases m : i = j'
          · subst m
            by_cases hi : i < ρ.length
            · rw [List.getElem?_set_self hi] at z1; cases z1
            · rw [List.getElem?_eq_none (by rw [List.length_set]; omega)] at z1; cases z1
          · rw [List.getElem?_set_ne m] at z1 z2
            exact own_some x1.x ⟨j', d', z1, z2⟩ n
      | un =>
        obtain ⟨j', d', z1, z2⟩ := z
        by_cases m : i = j'
        · subst m
          by_cases hi : i < ρ.length
          · rw [List.getElem?_set_self hi] at z1; cases z1
          · rw [List.getElem?_eq_none (by rw [List.length_set]; omega)] at z1; cases z1
        · rw [List.getElem?_set_ne m] at z1 z2
          exact own_some x1.x ⟨j', d', z1, z2⟩ n
      | ow d =>
        obtain ⟨p, o, e1, _, _, _, e5, _⟩ := r1
        rw [w] at e1
        cases e1
        rw [n] at e5
        cases e5
  obtain ⟨y2, o2, b2⟩ := store_ok y1 o1' r2 j
  refine k _ s2 q2 _ G2 H2 y2 ⟨f.g, fun c u z1 _ n => f.h c u z1 n, fun c z1 z2 _ => f.nw c z1 z2, fun c z => ?_, b1.trans b2, fun c z => (f.fp c z).elim .inl fun w => .inr (.inl w), f.kp⟩
  rcases o2 c z with w | w
  · exact o1 c w
  · exact .inr (f1.back w)⟩
/-- a, b, c = .., .., ..: values that may be kept -/
def par3W (i j l : Nat) (φa φb φc : WF τ D) : WF τ Ou := fun ρ s R => φa ρ s fun d1 t1 => φb ρ t1 fun d2 t2 => φc ρ t2 fun d3 t3 => R (.nx (((ρ.set i (.pu d1)).set j (.pu d2)).set l (.pu d3))) t3
theorem sw_par3 {i j l : Nat} {t1 t2 t3 : TE} {φc : WF τ D} (h1 : PuW Ω X a t1 φa) (h2 : PuW Ω X b t2 φb) (h3 : PuW Ω X c t3 φc) (hp : PA X [a, b, c] (tCons t1 (tCons t2 (tCons t3 tNil))) → PS X st (tPar3 i j l (tCons t1 (tCons t2 (tCons t3 tNil)))))
    (hs2 : starEach [c] X.env = (false, eval c X.env) :: starEach [] X.env := by rfl) (hs1 : starEach [b, c] X.env = (false, eval b X.env) :: starEach [c] X.env := by rfl) (hs : starEach [a, b, c] X.env = (false, eval a X.env) :: starEach [b, c] X.env := by rfl) : StW Ω W X st (tPar3 i j l (tCons t1 (tCons t2 (tCons t3 tNil)))) (par3W i j l φa φb φc) := ⟨hp (pa_cons h1.pe (pa_cons h2.pe (pa_cons h3.pe pa_nil hs2) hs1) hs), fun ρ s R hh G H σ x De k => by
  refine h1.ev ρ s _ hh G H σ x _ fun d1 v1 s1 G1 H1 q1 f1 r1 => ?_
  have x1 := x.mono f1
  refine h2.ev ρ s1 _ q1 G1 H1 σ x1 _ fun d2 v2 s2 G2 H2 q2 f2 r2 => ?_
  have x2 := x1.mono f2
  refine h3.ev ρ s2 _ q2 G2 H2 σ x2 _ fun d3 v3 s3 G3 H3 q3 f3 r3 => ⟨v1, v2, v3, rfl, ?_⟩
  have x3 := x2.mono f3
  have f := (f1.trans f2).trans f3
  have n1 : ∀ {σ' ρ'}, (∀ c, Own σ' ρ' c → Own σ ρ c) → ∀ c, Own σ' ρ' c → H3 c ≠ none := fun {σ' ρ'} hs c z => own_some x3.x (hs c z)
  obtain ⟨y1, o1, b1⟩ := store_ok (sl := .pu d1) x3 (own_ne x3) ((r1.mono f2.g).mono f3.g) i
  have s1' : ∀ c, Own (σ.set i (some v1)) (ρ.set i (.pu d1)) c → Own σ ρ c := fun c z => own_setP x.x.len z
  obtain ⟨y2, o2, b2⟩ := store_ok (sl := .pu d2) y1 (n1 s1') (r2.mono f3.g) j
  have s2' : ∀ c, Own ((σ.set i (some v1)).set j (some v2)) ((ρ.set i (.pu d1)).set j (.pu d2)) c → Own σ ρ c := fun c z => s1' c (own_setP y1.x.len z)
  obtain ⟨y3, o3, b3⟩ := store_ok (sl := .pu d3) y2 (n1 s2') r3 l
  exact k _ s3 q3 _ G3 H3 y3 ⟨f.g, fun c u z1 _ n => f.h c u z1 n, fun c z1 z2 _ => f.nw c z1 z2, fun c z => .inl (s2' c (own_setP y2.x.len z)), (b1.trans b2).trans b3, fun c z => (f.fp c z).elim .inl fun w => .inr (.inl w), f.kp⟩⟩
/-! sequences, return, if -/
def seqW (Φ Ψ : WF τ Ou) : WF τ Ou := fun ρ s R => Φ ρ s fun o s1 => match o with
  | .nx ρ2 => Ψ ρ2 s1 R
  | o => R o s1
theorem end_frS {De : Ends} {s s2 s3 : τ} {σ σ2 : St} {ρ ρ2 : Env} {G H G2 H2 : Hp} (x : EnvW Ω s G H σ ρ) (x2 : EnvW Ω s2 G2 H2 σ2 ρ2) (f : FrSW Ω s σ ρ G H s2 σ2 ρ2 G2 H2) {o : Ou} (k : EndW Ω De W s σ ρ G H o s3) : EndW Ω De W s2 σ2 ρ2 G2 H2 o s3 := by
  cases o with
  | nx ρ3 => exact fun σ3 G3 H3 x3 f3 => k σ3 G3 H3 x3 (f.trans x x2 f3)
  | bk ρ3 => exact fun σ3 G3 H3 x3 f3 => k σ3 G3 H3 x3 (f.trans x x2 f3)
  | ct ρ3 => exact fun σ3 G3 H3 x3 f3 => k σ3 G3 H3 x3 (f.trans x x2 f3)
  | rt d => exact fun v G3 H3 f3 r3 => k v G3 H3 (f.transR x x2 f3) r3
  | rz ρ3 c ns ds => exact fun σ3 G3 H3 xo x3 f3 r3 => k σ3 G3 H3 xo x3 (f.trans x x2 f3) r3
theorem end_frW {De : Ends} {s s2 s3 : τ} {σ : St} {ρ : Env} {G H G2 H2 : Hp} (x : EnvW Ω s G H σ ρ) (f : FrW Ω s G H s2 G2 H2) {o : Ou} (k : EndW Ω De W s σ ρ G H o s3) : EndW Ω De W s2 σ ρ G2 H2 o s3 := end_frS x (x.mono f) (.of x f) k
theorem end_nx {De : Ends} {N : St → Hp → Prop} {s s2 : τ} {σ : St} {ρ : Env} {G H : Hp} {o : Ou} (hn : ∀ ρ2, o ≠ .nx ρ2) (k : EndW Ω De W s σ ρ G H o s2) : EndW Ω { De with nx := N } W s σ ρ G H o s2 := by
  cases o with
  | nx ρ3 => exact absurd rfl (hn ρ3)
  | bk ρ3 => exact k
  | ct ρ3 => exact k
  | rt d => exact k
  | rz ρ3 c ns ds => exact k
theorem seq_evW (h1 : StWS Ω W ts Φ) (h2 : StWS Ω W tu Ψ) : StWS Ω W (tSeq ts tu) (seqW Φ Ψ) := fun ρ s R hh G H σ x De k => by
  refine h1 ρ s _ hh G H σ x _ fun o s1 q => ?_
  cases o with
  | nx ρ2 =>
    intro σ2 G2 H2 x2 f2
    exact h2 ρ2 s1 R q G2 H2 σ2 x2 De fun o s2 r => end_frS x x2 f2 (k o s2 r)
  | rt d => exact end_nx (fun _ z => by cases z) (k _ s1 q)
  | bk ρ2 => exact end_nx (fun _ z => by cases z) (k _ s1 q)
  | ct ρ2 => exact end_nx (fun _ z => by cases z) (k _ s1 q)
  | rz ρ2 c ns ds => exact end_nx (fun _ z => by cases z) (k _ s1 q)
def skipW : WF τ Ou := fun ρ s R => R (.nx ρ) s
theorem ssw_nil : SsW Ω W X [] tNext skipW := ⟨pss_nil, fun ρ s R h G H σ x De k => k _ s h σ G H x (.refl x)⟩
theorem ssw_one (h : StW Ω W X st ts Φ) : SsW Ω W X [st] ts Φ := ⟨pss_one h.ps, h.ev⟩
theorem ssw_cons (h : StW Ω W X st ts Φ) (hr : SsW Ω W X rest tu Ψ) : SsW Ω W X (st :: rest) (tSeq ts tu) (seqW Φ Ψ) := ⟨pss_cons h.ps hr.ps, seq_evW h.ev hr.ev⟩
def retW (φ : WF τ D) : WF τ Ou := fun ρ s R => φ ρ s fun d s1 => R (.rt d) s1
theorem sw_ret (h : PuW Ω X e t φ) : StW Ω W X (.Return (some e) pos) (tRet t) (retW φ) := ⟨ps_ret h.pe, fun ρ s R hh G H σ x De k => by
  exact h.ev ρ s _ hh G H σ x _ fun d v s1 G1 H1 q f r => k _ s1 q v G1 H1 (.of f) r⟩
def ifSW (χ : WF τ Bool) (Φ Ψ : WF τ Ou) : WF τ Ou := fun ρ s R => χ ρ s fun b s1 => if b = true then Φ ρ s1 R else Ψ ρ s1 R
theorem sw_if (h : TeW Ω X c tt χ) (ha : SsW Ω W X sa ts Φ) (hb : SsW Ω W X sb tu Ψ) : StW Ω W X (.If c sa sb pos) (tIfS tt ts tu) (ifSW χ Φ Ψ) := ⟨ps_if h.pt ha.ps hb.ps, fun ρ s R hh G H σ x De k => by
  refine h.ev ρ s _ hh G H σ x _ fun b s1 G1 H1 q f => ?_
  cases b with
  | true => exact ha.ev ρ s1 R q G1 H1 σ (x.mono f) De fun o s2 r => end_frW x f (k o s2 r)
  | false => exact hb.ev ρ s1 R q G1 H1 σ (x.mono f) De fun o s2 r => end_frW x f (k o s2 r)⟩
theorem sw_drop (h : PuW Ω X e t φ) (hs : swapsWith e none pos.line X.env = pure false := by rfl) : StW Ω W X (.Expr e pos) (tDrop t) (fun ρ s R => φ ρ s fun _ s1 => R (.nx ρ) s1) := ⟨ps_expr h.pe hs, fun ρ s R hh G H σ x De k => by
  exact h.ev ρ s _ hh G H σ x _ fun d v s1 G1 H1 q f r => k _ s1 q σ G1 H1 (x.mono f) (.of x f)⟩
/-! own things written to -/
/-- what writing to an own thing leaves -/
theorem grow_okW {s : τ} {G H : Hp} {σ : St} {ρ : Env} (x : EnvW Ω s G H σ ρ) {i : Nat} {xs ys : D} {p : Addr} {ob : HO} (hk : ∀ C ns ds, ys = .obj C ns ds → ∃ C' ns' ds', xs = .obj C' ns' ds') (h1 : ρ[i]? = some (Sl.ow xs)) (h2 : σ[i]? = some (some (V.ref p))) (r : Top G ys ob) :
    EnvW Ω s G (upd H p ob) σ (ρ.set i (Sl.ow ys)) ∧ FrSW Ω s σ ρ G H s σ (ρ.set i (Sl.ow ys)) G (upd H p ob) := by
  obtain ⟨y, f⟩ := grow_ok x.x hk h1 h2 r
  obtain ⟨f', y'⟩ := FrSW.lift x y f
  exact ⟨y', f'⟩
def growW {β : Type} (i : Nat) (φ : WF τ β) (op : List D → β → List D) : WF τ Ou := fun ρ s R => match ρ[i]? with
  | some (.ow (.seq true xs)) => φ ρ s fun d s1 => (op xs d).length ≤ Lim ∧ R (.nx (ρ.set i (Sl.ow (.seq true (op xs d))))) s1
  | _ => False
theorem sw_app {i : Nat} {o : Expr} {apos cpos : Pos} (h : PuW Ω X e t φ) (hp : PE X e t → PS X (.Expr (.Call (.Attribute o "append" apos) [e] [] cpos) pos) (tDrop (tBM X.K "list" rAppend (tVar i) (tCons t tNil)))) :
    StW Ω W X (.Expr (.Call (.Attribute o "append" apos) [e] [] cpos) pos) (tDrop (tBM X.K "list" rAppend (tVar i) (tCons t tNil))) (growW i φ fun xs d => xs ++ [d]) := ⟨hp h.pe, fun ρ s R hh G H σ x De k => by
  unfold growW at hh
  split at hh
  · rename_i xs h1
    obtain ⟨p, ob, h2, h3, h4, us, rfl, h5, h6⟩ := x.x.ow i _ h1
    refine ⟨_, h2, .inl ⟨rfl, _, SqL.of h4⟩, h.ev ρ s _ hh G H σ x _ fun d v s1 G1 H1 q f r => ?_⟩
    have gg := grow_okW (x.mono f) (fun _ _ _ z => by cases z) (ys := .seq true (xs ++ [d])) (ob := .lst (us ++ [v])) h1 h2 ⟨_, rfl, q.1, (h6.mono f.g).app (.cons r .nil)⟩
    refine ⟨p, us, v, rfl, rfl, f.h _ _ h4 (x.no ⟨i, _, h1, h2⟩), ?_, k _ s1 q.2 σ G1 _ gg.1 ((FrSW.of x f).trans x (x.mono f) gg.2)⟩
    have : us.length ≤ Lim := by rw [h6.len]; exact h5
    rw [sizeLine_eq]; have : Lim = 5000 := rfl; omega
  · exact hh.elim⟩
/-- d[k] = v -/
def repL : List Key → List D → Key → D → List D
  | k :: ks, d :: ds, x, v => (if k = x then v else d) :: repL ks ds x v
  | _, ds, _, _ => ds
def putD (ks : List Key) (ds : List D) (k : Key) (d : D) : D := if memK k ks = true then .dct ks (repL ks ds k d) else .dct (ks ++ [k]) (ds ++ [d])
theorem repL_len : ∀ {ks : List Key} {ds : List D} {k : Key} {d : D}, (repL ks ds k d).length = ds.length
  | [], ds, k, d => rfl
  | x :: ks, [], k, d => rfl
  | x :: ks, e :: ds, k, d => by unfold repL; rw [List.length_cons, List.length_cons, repL_len]
theorem repL_rep {G : Hp} {k : Key} {d : D} {v : V} (r : Rep G d v) : ∀ {ks : List Key} {ds : List D} {us : List V}, Reps G ds us → ks.length = ds.length →
    ∃ us', (ks.zip us).map (fun kv => if kv.1 = k then (kv.1, v) else kv) = ks.zip us' ∧ us'.length = us.length ∧ Reps G (repL ks ds k d) us'
  | [], ds, us, h, hl => by
    have : ds = [] := List.length_eq_zero_iff.mp hl.symm
    subst this
    exact ⟨us, rfl, rfl, h⟩
  | x :: ks, [], us, h, hl => by simp at hl
  | x :: ks, e :: ds, us, h, hl => by
    obtain ⟨u, us1, rfl, q, tl⟩ := h.un
    obtain ⟨us', h1, h2, h3⟩ := repL_rep r tl (by simpa using hl)
    rw [List.zip_cons_cons, List.map_cons, h1, repL]
    by_cases e : x = k
    · rw [if_pos e, if_pos e]
      exact ⟨v :: us', rfl, by rw [List.length_cons, List.length_cons, h2], .cons r h3⟩
    · rw [if_neg e, if_neg e]
      exact ⟨u :: us', rfl, by rw [List.length_cons, List.length_cons, h2], .cons q h3⟩
def dputW (i : Nat) (φk φv : WF τ D) : WF τ Ou := fun ρ s R => match ρ[i]? with
  | some (.ow (.dct ks ds)) => φv ρ s fun d s1 => φk ρ s1 fun y s2 => ∃ k, keyD y = some k ∧ ds.length < 1000 ∧ R (.nx (ρ.set i (Sl.ow (putD ks ds k d)))) s2
  | _ => False
theorem sw_dput {i : Nat} {o ik : Expr} {pos' : Pos} (hu : X.A.units + 1 < cLine) (ho : PE X o (tVar i)) (hk : PuW Ω X ik ta φa) (hv : PuW Ω X e t φ) (hs : swapsWith e (some (.Subscript o ik pos')) pos.line X.env = pure false := by rfl) :
    StW Ω W X (.Assign [.Subscript o ik pos'] e pos) (sDPut (tVar i) ta t) (dputW i φa φ) := ⟨ps_dput hu ho hk.pe hv.pe hs, fun ρ s R hh G H σ x De k => by
  unfold dputW at hh
  split at hh
  · rename_i ks ds h1
    obtain ⟨p, ob, h2, h3, h4, us, rfl, h5, h6, h7⟩ := x.x.ow i _ h1
    refine hv.ev ρ s _ hh G H σ x _ fun d v s1 G1 H1 q1 f1 r1 => ⟨_, h2, ?_⟩
    refine hk.ev ρ s1 _ q1 G1 H1 σ (x.mono f1) _ fun dk vk s2 G2 H2 q2 f2 r2 => ?_
    obtain ⟨kk, e4, hl, q3⟩ := q2
    have f := f1.trans f2
    have x2 := x.mono f
    obtain rfl := keyD_kV (G := G2) (H := H2) e4 (.inl r2)
    have hlu : ks.length = us.length := by rw [h5, h7.len]
    refine ⟨p, _, rfl, DPut.k (f.h _ _ h4 (x.no ⟨i, _, h1, h2⟩)) ?_, ?_⟩
    · rw [List.length_zip, ← hlu, Nat.min_self, h5, sizeLine_eq]; omega
    · obtain ⟨us', e5, e6, e7⟩ : ∃ us', putK (ks.zip us) kk v = (match putD ks ds kk d with | .dct ks' _ => ks' | _ => []).zip us' ∧ us'.length = (match putD ks ds kk d with | .dct ks' _ => ks' | _ => []).length ∧ (match putD ks ds kk d with | .dct _ ds' => Reps G2 ds' us' | _ => False) := by
        unfold putD
        by_cases m : memK kk ks = true
        · rw [if_pos m]
          obtain ⟨us', a1, a2, a3⟩ := repL_rep (k := kk) (r1.mono f2.g) (h7.mono f.g) h5
          refine ⟨us', ?_, by rw [a2, ← hlu], a3⟩
          unfold putK
          have : ((ks.zip us).any fun kv => decide (kv.1 = kk)) = true := by
            obtain ⟨z, z1, z2⟩ := List.any_eq_true.mp m
            obtain ⟨n, hn, rfl⟩ := List.getElem_of_mem z1
            exact List.any_eq_true.mpr ⟨(ks[n], us[n]'(by omega)), List.mem_iff_getElem.mpr ⟨n, by rw [List.length_zip]; omega, by rw [List.getElem_zip]⟩, z2⟩
          rw [if_pos this]
          exact a1
        · rw [if_neg m]
          refine ⟨us ++ [v], ?_, by show (us ++ [v]).length = (ks ++ [kk]).length; rw [List.length_append, List.length_append, hlu]; rfl, (h7.mono f.g).app (.cons (r1.mono f2.g) .nil)⟩
          exact putK_zip (Bool.not_eq_true _ ▸ m) hlu
      rw [e5]
      have gg := grow_okW x2 (fun _ _ _ z => by unfold putD at z; split at z <;> cases z) (ys := putD ks ds kk d) (ob := .dK ((match putD ks ds kk d with | .dct ks' _ => ks' | _ => []).zip us')) h1 h2 (by
        unfold putD at e6 e7 ⊢
        by_cases m : memK kk ks = true
        · rw [if_pos m] at e6 e7 ⊢
          exact ⟨us', rfl, by rw [repL_len]; exact h5, by rw [repL_len]; exact h6, e7⟩
        · rw [if_neg m] at e6 e7 ⊢
          exact ⟨us', rfl, by rw [List.length_append, List.length_append, h5]; rfl, by rw [List.length_append]; have : Lim = 5000 := rfl; have : [d].length = 1 := rfl; omega, e7⟩)
      exact k _ s2 q3 σ G2 _ gg.1 ((FrSW.of x f).trans x x2 gg.2)
  · exact hh.elim⟩
end
end L2.Tr

/-! Trees beside something that changes: loops, comprehensions, defs. -/
namespace L2.Tr
open PySem PySem.Spec PyProof.Rows
section
variable {τ β : Type} {Ω : Om τ} {X : Cx} {W : WX} {e a b c tg : Expr} {es : List Expr} {t ta tb : TE} {tt tu' : TT} {tr : TA} {ts tu : TS} {φ φa φb : WF τ D} {χ ξ : WF τ Bool} {ψ : WF τ (List D)} {pos : Pos} {g : TG} {θ : D → Env → Option Env} {Φ Ψ : WF τ Ou} {st : Stmt} {sa sb rest : List Stmt} {wi : TI}
def loopW (θ : D → Env → Option Env) (Φ : WF τ Ou) : List D → WF τ Ou
  | [], ρ, s, R => R (.nx ρ) s
  | d :: ds, ρ, s, R => ∃ ρ1, θ d ρ = some ρ1 ∧ Φ ρ1 s fun o s2 => match o with
    | .nx ρ2 => loopW θ Φ ds ρ2 s2 R
    | .ct ρ2 => loopW θ Φ ds ρ2 s2 R
    | .bk ρ2 => R (.nx ρ2) s2
    | .rt d => R (.rt d) s2
    | .rz ρ2 c ns ds => R (.rz ρ2 c ns ds) s2
def forW (ψ : WF τ (List D)) (θ : D → Env → Option Env) (Φ : WF τ Ou) : WF τ Ou := fun ρ s R => ψ ρ s fun ds s1 => loopW θ Φ ds ρ s1 R
theorem sw_for {body : List Stmt} (hp : PassesOwn (model X.prog X.w) X.A X.env X.xe) (hc : X.calm = true) (hi : ItW Ω X tg e wi ψ) (hg : TgD X tg g θ) (hb : SsW Ω W X body tu Φ) (hs : ∀ x, foldedSetIterable e X.env x = pure x := by intro _; rfl) :
    StW Ω W X (.For tg e body [] pos) (tFor wi g tu) (forW ψ θ Φ) := ⟨ps_for hp hc hi.pi hg.pg hb.ps hs, fun ρ s R hh G H σ x De k => by
  refine hi.ev ρ s _ hh G H σ x _ fun ds s1 J G1 H1 Γ Y q f1 wk hΓ hY => ?_
  have x1 := x.mono f1
  refine for_it wk (fun i σ' H' => ∃ G' ρ' s', Ex G1 G' ∧ EnvW Ω s' G' H' σ' ρ' ∧ FrSW Ω s1 σ ρ G1 H1 s' σ' ρ' G' H' ∧ loopW θ Φ (ds.drop i) ρ' s' R) ⟨G1, ρ, s1, Ex.refl _, x1, .refl x1, by rw [List.drop_zero]; exact q⟩
    (fun i σ' H' _ ⟨G', ρ', s', g', x', _, _⟩ => hΓ H' (g'.trans x'.x.gh)) ?_ ?_
  · rintro i y σ' H' H'' hi' ⟨G', ρ', s', g', x', f', l'⟩ yy
    obtain ⟨d, G'', h1, f2, r2⟩ := hY i H' y H'' G' hi' g' x'.x.gh yy
    have hd : ds.drop i = d :: ds.drop (i + 1) := by
      rw [List.drop_eq_getElem_cons hi']
      congr 1
      rw [List.getElem?_eq_getElem hi'] at h1
      exact Option.some.inj h1
    rw [hd] at l'
    unfold loopW at l'
    obtain ⟨ρ1, e3, e4⟩ := l'
    have x'' := x'.mono (.of x' f2)
    refine hg.ev d ρ' ρ1 e3 G'' H'' σ' y x''.x r2 _ fun σ2 x2 o2 ob => ?_
    have fs := FrSW.sub x'' o2 ob
    have x2' : EnvW Ω s' G'' H'' σ2 ρ1 := ⟨x2, x''.i, x''.g, fun a z w => x''.o a z (o2 a w)⟩
    have fr : FrSW Ω s1 σ ρ G1 H1 s' σ2 ρ1 G'' H'' := f'.trans x1 x' ((FrSW.of x' (.of x' f2)).trans x' x'' fs)
    refine hb.ev ρ1 s' _ e4 G'' H'' σ2 x2' _ fun o1 s2 q2 => ?_
    have fr0 := (FrSW.of x f1).trans x x1 fr
    cases o1 with
    | nx ρ2 => exact fun σ3 G3 H3 x3 f3 => ⟨G3, ρ2, s2, g'.trans (f2.g.trans f3.g), x3, fr.trans x1 x2' f3, q2⟩
    | ct ρ2 => exact fun σ3 G3 H3 x3 f3 => ⟨G3, ρ2, s2, g'.trans (f2.g.trans f3.g), x3, fr.trans x1 x2' f3, q2⟩
    | bk ρ2 => exact fun σ3 G3 H3 x3 f3 => k _ s2 q2 σ3 G3 H3 x3 (fr0.trans x x2' f3)
    | rt z => exact fun v G3 H3 f3 r3 => k _ s2 q2 v G3 H3 (fr0.transR x x2' f3) r3
    | rz ρ2 c ns ds => exact fun σ3 G3 H3 xo x3 f3 r3 => k _ s2 q2 σ3 G3 H3 xo x3 (fr0.trans x x2' f3) r3
  · rintro σ' H' ⟨G', ρ', s', g', x', f', l'⟩
    rw [List.drop_length] at l'
    exact k _ s' l' σ' G' H' x' ((FrSW.of x f1).trans x x1 f')⟩
/-! comprehensions -/
def cPuW (Ω : Om τ) (φ : WF τ D) : TE := fun σ H Q => ∃ (ρ : Env) (s : τ) (R : D → τ → Prop) (G : Hp), φ ρ s R ∧ EnvW Ω s G H σ ρ ∧ ∀ d v s2 G2 H2, R d s2 → FrW Ω s G H s2 G2 H2 → Rep G2 d v → Q v H2
def cTeW (Ω : Om τ) (χ : WF τ Bool) : TT := fun σ H Q => ∃ (ρ : Env) (s : τ) (R : Bool → τ → Prop) (G : Hp), χ ρ s R ∧ EnvW Ω s G H σ ρ ∧ ∀ b s2 G2 H2, R b s2 → FrW Ω s G H s2 G2 H2 → Q b H2
theorem PuW.cc (h : PuW Ω X e t φ) : PE X e (cPuW Ω φ) := ⟨fun pins s' σ H Q I ⟨ρ, s, R, G, h1, h2, h3⟩ => h.pe.run pins s' σ H Q I (h.ev ρ s R h1 G H σ h2 Q h3)⟩
theorem TeW.cc (h : TeW Ω X e tt χ) : PT X e (cTeW Ω χ) := ⟨fun pins s' σ H Q I ⟨ρ, s, R, G, h1, h2, h3⟩ => h.pt.run pins s' σ H Q I (h.ev ρ s R h1 G H σ h2 Q h3)⟩
def compW (θ : D → Env → Option Env) (χ : WF τ Bool) (φ : WF τ D) : List D → WF τ (List D)
  | [], _, s, R => R [] s
  | d :: ds, ρ, s, R => ∃ ρ1, θ d ρ = some ρ1 ∧ χ ρ1 s fun b s1 => if b = true then φ ρ1 s1 fun z s2 => compW θ χ φ ds ρ s2 fun zs s3 => R (z :: zs) s3 else compW θ χ φ ds ρ s1 R
def lcW (vs : List Nat) (ψ : WF τ (List D)) (θ : D → Env → Option Env) (χ : WF τ Bool) (φ : WF τ D) : WF τ D := fun ρ s R => ψ ρ s fun ds s1 => ds.length ≤ Lim ∧ compW θ χ φ ds (wipeE ρ vs) s1 fun zs s2 => R (.seq true zs) s2
def yesW : WF τ Bool := fun _ s R => R true s
theorem own_wipe {σ : St} {ρ : Env} {vs : List Nat} {a : Addr} (h : Own (L2.wipe σ vs) (wipeE ρ vs) a) : Own σ ρ a := by
  obtain ⟨i, d, h1, h2⟩ := h
  obtain ⟨h3, h4⟩ := wipeE_get (fun z => by cases z) h1
  rw [wipe_out h4] at h2
  exact ⟨i, d, h3, h2⟩
theorem EnvW.wipe {s : τ} {G H : Hp} {σ : St} {ρ : Env} (x : EnvW Ω s G H σ ρ) (vs : List Nat) : EnvW Ω s G H (L2.wipe σ vs) (wipeE ρ vs) := ⟨x.x.wipe vs, x.i, x.g, fun a z w => x.o a z (own_wipe w)⟩
/-! Trees: products, own things of any kind, dict(pairs), stores into own lists. -/
namespace L2.Tr
open PySem PySem.Spec PyProof.Rows
section
variable {τ β : Type} {Ω : Om τ} {X : Cx} {K : PySem.W.Frag} {W : WX} {e a b c o tg : Expr} {es : List Expr} {t ta tb to : TE} {tr : TA} {φ φa φb : Env → Option D} {φw φv : WF τ D} {pos : Pos}
/-! products, quotients -/
def mulD : D → D → Option D
  | .leaf (.int i), .leaf (.int j) => if -(2 ^ 64) < j ∧ j < 2 ^ 64 then some (.leaf (.int (i * j))) else none
  | _, _ => none
theorem r2_mul : R2D (rI CMul fun i j => .int (i * j)) mulD := fun d1 d2 z e G H v1 v2 x r1 r2 Q k => by
  unfold mulD at e
  split at e
  · rename_i i j
    split at e
    · rename_i hj
      cases e
      obtain ⟨rfl, _⟩ := r1.lf
      obtain ⟨rfl, _⟩ := r2.lf
      exact ⟨i, j, rfl, rfl, .inr hj, k _ G H (.refl x) (.lf rfl)⟩
    · cases e
  · cases e
def fdivD : D → D → Option D
  | .leaf (.int i), .leaf (.int j) => if 0 < j ∧ j < 1073741824 then some (.leaf (.int (i / j))) else none
  | _, _ => none
theorem pu_mul {pos : Pos} (ha : ViD X a ta φa) (hb : ViD X b tb φb) : PuD X (.BinOp a .Mult b pos) (tOp (rI CMul fun i j => .int (i * j)) ta tb) (bin2 mulD φa φb) := pu_op op_mul r2_mul ha hb
/-! own things of any kind -/
def OtS (t : TE) (φ : Env → Option D) : Prop := ∀ ρ d, φ ρ = some d → ∀ (G H : Hp) (σ : St), EnvOk G H σ ρ → ∀ Q : VK, (∀ p o G2 H2, Fr G H G2 H2 → H p = none → G2 p = none → H2 p = some o → Top G2 d o → Q (.ref p) H2) → t σ H Q
structure OtD (X : Cx) (e : Expr) (t : TE) (φ : Env → Option D) : Prop where
  pe : PE X e t
  ev : OtS t φ
theorem OtD.w (h : OtD X e t φ) : OwW Ω X e t (lf φ) := ⟨h.pe, fun ρ s R ⟨d, e1, r⟩ G H σ x Q k => by
  refine h.ev ρ d e1 G H σ x.x Q fun p o G2 H2 f n1 n2 h2 q => k _ p _ s G2 H2 r (.of x f) n1 n2 (fun z => Ω.has s H p x.i z n1) h2 q⟩
theorem OtD.pu (h : OtD X e t φ) : PuD X e t φ := ⟨h.pe, fun ρ d ee G H σ x Q k => by
  refine h.ev ρ d ee G H σ x Q fun p o G2 H2 f n1 n2 h2 r => ?_
  have g2 : Ex (upd G2 p o) H2 := fun a u z => by
    by_cases q : a = p
    · rw [q, upd_same] at z; rw [q]; cases z; exact h2
    · rw [upd_ne q] at z; exact f.gh _ _ z
  refine k (.ref p) (upd G2 p o) H2 ⟨f.g.trans (Ex.new n2), g2, f.h, fun a h1 h2 => ?_⟩ (r.rep (Ex.new n2) upd_same)
  have : a ≠ p := fun z => h1 (z ▸ n1)
  rw [upd_ne this]
  exact f.nw a h1 h2⟩
/-- dict(d) -/
def R1T (r : List V → Hp → VK → Prop) (op : List D → Option D) : Prop := ∀ ds z, op ds = some z → ∀ (G H : Hp) (vs : List V), Ex G H → Views G H ds vs → ∀ Q : VK, (∀ p o G2 H2, Fr G H G2 H2 → H p = none → G2 p = none → H2 p = some o → Top G2 z o → Q (.ref p) H2) → r vs H Q
theorem r1_dctT : R1T (fun xs H Q => ∃ (a : Addr) (kvs : List (Key × V)), xs = [.ref a] ∧ Rd H a (.dK kvs) ∧ ∀ p, H p = none → Q (.ref p) (upd H p (.dK kvs))) dctD := fun ds z e G H vs x r1 Q k => by
  unfold dctD at e
  split at e
  · rename_i ks ds
    cases e
    obtain ⟨v, rfl, r⟩ := views1 r1
    obtain ⟨a, us, rfl, h1, l0, l1, q⟩ := r.dct x
    exact ⟨a, _, rfl, Rd.of h1, fun p np => k p _ G _ (.tmp x np) np (x.back np) upd_same ⟨us, rfl, l0, l1, q⟩⟩
  · cases e
theorem ot_cty {x T : _} {p : Pos} {r : List V → Hp → VK → Prop} {op : List D → Option D} {ψ : Env → Option (List D)} (hc : CallR X (.type T) r) (hd : R1T r op) (hg : Gl X x) (hm : X.mg x = none) (hv : bootBuiltins x = some (.type T)) (ha : AvD X (e :: es) tr ψ) (hn : x ≠ "__name__" := by decide) (hdb : (x == ("__debug__" : Str)) = false := by decide)
    (he : starEach (e :: es) X.env = (false, eval e X.env) :: starEach es X.env := by rfl) (hpl : (backTo pos (starEach es X.env)).any (·.1) = false := by rfl) : OtD X (.Call (.Name x p) (e :: es) [] pos) (tCB r tr) (app1 op ψ) := ⟨pe_callTy hc hg hm hv ha.pa hn hdb he hpl, fun ρ d ee G H σ x Q k => by
  obtain ⟨ds, e1, e2⟩ := Option.bind_eq_some_iff.mp ee
  exact ha.ev ρ ds e1 G H σ x _ fun vs G1 H1 f1 r1 => hd ds d e2 G1 H1 vs f1.gh r1 Q fun p o G2 H2 f2 n1 n2 h2 r2 => k p o G2 H2 (f1.trans f2) (f1.ne n1) n2 h2 r2⟩
/-- dict([(k, v), ..]), unlike keys -/
def pairD : D → Option (Key × D)
  | .seq false [k, v] => (keyD k).map fun y => (y, v)
  | _ => none
def pairsD : List D → Option (List (Key × D))
  | [] => some []
  | d :: r => (pairD d).bind fun p => (pairsD r).map (p :: ·)
def dctP : List D → Option D
  | [.seq true ds] => (pairsD ds).bind fun ps => if (ps.map (·.1)).Nodup then some (.dct (ps.map (·.1)) (ps.map (·.2))) else none
  | _ => none
theorem pairs_rep {G H : Hp} (x : Ex G H) : ∀ {ds : List D} {ps : List (Key × D)} {us : List V}, pairsD ds = some ps → Reps G ds us → ∃ (as : List Addr) (vs : List V), us = as.map V.ref ∧ Paired (fun p kv => SqT K H p [kV kv.1, kv.2]) as ((ps.map (·.1)).zip vs) ∧ Reps G (ps.map (·.2)) vs
  | [], ps, us, h, r => by cases h; rw [r.un0]; exact ⟨[], [], rfl, .nil, .nil⟩
  | d :: ds, ps, us, h, r => by
    obtain ⟨p, h1, h2⟩ := Option.bind_eq_some_iff.mp h
    obtain ⟨r', h3, rfl⟩ := Option.map_eq_some_iff.mp h2
    obtain ⟨u, us1, rfl, q, tl⟩ := r.un
    obtain ⟨as, vs, rfl, g1, g2⟩ := pairs_rep x h3 tl
    unfold pairD at h1
    split at h1
    · rename_i k v
      obtain ⟨y, h4, rfl⟩ := Option.map_eq_some_iff.mp h1
      obtain ⟨a, ws, rfl, a1, _, a2⟩ := q.un_sq
      obtain ⟨w1, ws1, rfl, b1, b2⟩ := a2.un
      obtain ⟨w2, ws2, rfl, c1, c2⟩ := b2.un
      rw [c2.un0] at a1
      obtain rfl := keyD_kV (G := G) (H := H) h4 (.inl b1)
      exact ⟨a :: as, w2 :: vs, rfl, .cons (SqT.of (x _ _ a1)) g1, .cons c1 g2⟩
    · cases h1
theorem r1_dctP : R1D (fun xs H Q => ∃ (a : Addr) (ps : List Addr) (kvs : List (Key × V)), xs = [.ref a] ∧ SqL K H a (ps.map V.ref) ∧ Paired (fun p kv => SqT K H p [kV kv.1, kv.2]) ps kvs ∧ ∀ p, H p = none → Q (.ref p) (upd H p (.dK (mergeK [] kvs)))) dctP := fun ds z e G H vs x r1 Q k => by
  unfold dctP at e
  split at e
  · rename_i ds
    obtain ⟨ps, h1, h2⟩ := Option.bind_eq_some_iff.mp e
    split at h2
    · rename_i hn
      cases h2
      obtain ⟨v, rfl, r⟩ := views1 r1
      obtain ⟨a, us, rfl, h3, l1, q⟩ := r.seq x
      obtain ⟨as, ws, rfl, g1, g2⟩ := pairs_rep (K := K) x h1 q
      refine ⟨a, as, _, rfl, SqL.of h3, g1, fun p np => ?_⟩
      have hl : (ps.map (·.1)).length = ws.length := by rw [g2.len, List.length_map, List.length_map]
      have e : mergeK [] ((ps.map (·.1)).zip ws) = (ps.map (·.1)).zip ws := merge_zip (acc := []) (as := []) (by rw [List.nil_append]; exact hn) rfl hl
      rw [e]
      refine k (.ref p) _ _ (.new x np) (.dc upd_same (by rw [List.length_map, List.length_map]) ?_ (g2.mono (Ex.new (x.back np))))
      have := q.len
      rw [← g2.len, ← hl]
      have h5 : ∀ {ds : List D} {ps : List (Key × D)}, pairsD ds = some ps → ps.length = ds.length := fun {ds} => by
        induction ds with
        | nil => intro ps h; cases h; rfl
        | cons d ds ih =>
          intro ps h
          obtain ⟨p, z1, z2⟩ := Option.bind_eq_some_iff.mp h
          obtain ⟨r', z3, rfl⟩ := Option.map_eq_some_iff.mp z2
          rw [List.length_cons, List.length_cons, ih z3]
      rw [List.length_map, h5 h1]
      exact l1
    · cases h2
  · cases e
/-! xs[i] = e, xs an own list -/
def lputW (i : Nat) (j : Int) (φ : WF τ D) : WF τ Ou := fun ρ s R => match ρ[i]? with
  | some (.ow (.seq true xs)) => φ ρ s fun d s1 => ∃ n, ixN xs.length j = some n ∧ R (.nx (ρ.set i (Sl.ow (.seq true (xs.set n d))))) s1
  | _ => False
theorem sw_lput {i : Nat} {j : Int} (h : PuW Ω X e t φw) (hp : PE X e t → PS X (.Assign [tg] e pos) (tAsg t (gSub (tVar i) (tC (.int j)) rSetL))) : StW Ω W X (.Assign [tg] e pos) (tAsg t (gSub (tVar i) (tC (.int j)) rSetL)) (lputW i j φw) := ⟨hp h.pe, fun ρ s R hh G H σ x De k => by
  unfold lputW at hh
  split at hh
  · rename_i xs h1
    obtain ⟨p, ob, h2, h3, h4, us, rfl, h5, h6⟩ := x.x.ow i _ h1
    refine h.ev ρ s _ hh G H σ x _ fun d v s1 G1 H1 ⟨n, e1, q⟩ f r => ?_
    have x1 := x.mono f
    have hp1 := f.h _ _ h4 (x.no ⟨i, _, h1, h2⟩)
    refine ⟨_, h2, p, us, j, n, rfl, rfl, hp1, by rw [h6.len]; exact e1, ?_⟩
    have gg := grow_okW x1 (fun _ _ _ z => by cases z) (ys := .seq true (xs.set n d)) (ob := .lst (us.set n v)) h1 h2 ⟨_, rfl, by rw [List.length_set]; exact h5, Reps.st r n (h6.mono f.g)⟩
    exact k _ s1 q σ G1 _ gg.1 ((FrSW.of x f).trans x x1 gg.2)
  · exact hh.elim⟩
/-! o.append(e), o a new list that nothing keeps -/
def appTW (φv φw : WF τ D) : WF τ Ou := fun ρ s R => φv ρ s fun d1 s1 => (∃ xs, d1 = .seq true xs) ∧ φw ρ s1 fun _ s2 => R (.nx ρ) s2
theorem sw_appT {apos cpos : Pos} (ho : OwW Ω X o to φv) (h : PuW Ω X e t φw) (hp : PE X o to → PE X e t → PS X (.Expr (.Call (.Attribute o "append" apos) [e] [] cpos) pos) (tDrop (tBM X.K "list" rAppend to (tCons t tNil)))) :
    StW Ω W X (.Expr (.Call (.Attribute o "append" apos) [e] [] cpos) pos) (tDrop (tBM X.K "list" rAppend to (tCons t tNil))) (appTW φv φw) := ⟨hp ho.pe h.pe, fun ρ s R hh G H σ x De k => by
  refine ho.ev ρ s _ hh G H σ x _ fun d1 p ob s1 G1 H1 q1 f1 n1 n2 n3 hp1 top => ?_
  obtain ⟨⟨xs, rfl⟩, q1⟩ := q1
  obtain ⟨us, rfl, hl, r⟩ := top
  have x1 := x.mono f1
  refine ⟨.inl ⟨rfl, _, SqL.of hp1⟩, h.ev ρ s1 _ q1 G1 H1 σ x1 _ fun d v s2 G2 H2 q2 f2 r2 => ?_⟩
  have hp2 := f2.h _ _ hp1 n3
  have n4 : G2 p = none := f2.nw p (by rw [hp1]; exact fun z => nomatch z) n2
  have n5 : ¬ Ω.F s2 p := fun z => by
    rcases f2.fp p z with w | w
    · exact n3 w
    · rw [hp1] at w; cases w
  have hl2 : us.length ≤ Lim := by rw [r.len]; exact hl
  have f := f1.trans f2
  refine ⟨p, us, v, rfl, rfl, hp2, by rw [sizeLine_eq]; have : Lim = 5000 := rfl; omega, ?_⟩
  have fu : FrW Ω s G H s2 G2 (upd H2 p (.lst (us ++ [v]))) := by
    refine ⟨f.g, fun a o z => ?_, fun a o z n => ?_, f.nw, Ω.ext s2 H2 _ f.i fun a o z w => ?_, f.fp, fun a z => ?_, f.out⟩
    · have : a ≠ p := fun w => by rw [w, n4] at z; cases z
      rw [upd_ne this]; exact f.gh _ _ z
    · have : a ≠ p := fun w => by rw [w, n1] at z; cases z
      rw [upd_ne this]; exact f.h _ _ z n
    · have : a ≠ p := fun u => n5 (u ▸ z)
      rw [upd_ne this]; exact w
    · by_cases w : a = p
      · rw [w, upd_same]; exact fun z => nomatch z
      · rw [upd_ne w]; exact f.kp a z
  exact k _ s2 q2 σ G2 _ (x.mono fu) (.of x fu)⟩
/-! methods that hand back a thing of their own -/
def spOt (f : List D → Option D) : Sp := fun vs H Q _ => ∃ (G : Hp) (ds : List D) (d : D), Ex G H ∧ Reps G ds vs ∧ f ds = some d ∧
  ∀ p o G2 H2, Fr G H G2 H2 → H p = none → G2 p = none → H2 p = some o → Top G2 d o → Q (.ref p) H2
structure MthT (P : Program) (w : World) (K : PySem.W.Frag) (mg : Str → Option Value) (base : Heap) (C : Addr) (m : Str) (k : Nat) (f : List D → Option D) : Prop where
  ex : ∃ (a : Addr) (fd : FuncData) (ps : List Str), Cls K C ∧ Meth K C m a ∧ FnOk P w K mg base CX0 k a fd ps (spOt f) ∧ Binds K fd ps []
theorem ot_meth0 {C0 : Addr} {m : Str} {k : Nat} {f : List D → Option D} {apos : Pos} {pl : Sem Bool} (M : MthT X.prog X.w X.K X.mg X.base C0 m k f) (hr : Room k X.A) (ho : PuD X o t φ)
    (ht : eval (.Call (.Attribute o m apos) [] [] pos) X.env = (do
      let ov ← eval o X.env
      standAt apos.atName
      let (f, first) ← holding [ov] (getMethod ov m pl)
      callWith pos f first (backTo pos (starEach [] X.env)) (backToKw pos (keywordEach [] X.env))) := by rfl) :
    OtD X (.Call (.Attribute o m apos) [] [] pos) (tMeth C0 m (spOt f) [] E0 t tNil) (metF C0 m f φ nilD) := by
  obtain ⟨a, fd, ps, c1, c2, c3, c4⟩ := M.ex
  refine ⟨pe_meth0 ho.pe c1 c2 c3 hr c4 .nil pass0 ht, fun ρ z ee G H σ x Q k => ?_⟩
  obtain ⟨d1, e1, e3⟩ := Option.bind_eq_some_iff.mp ee
  obtain ⟨xs, e4, e5⟩ := Option.bind_eq_some_iff.mp e3
  cases e4
  refine ho.ev ρ d1 e1 G H σ x _ fun v G1 H1 f1 r1 => ?_
  unfold metD at e5
  split at e5
  · split at e5
    · rename_i C ns ds hC
      obtain ⟨rfl, hm⟩ := hC
      obtain ⟨p, dx, us, rfl, h1, h2, h3⟩ := r1.un_obj
      refine ⟨p, dx, _, rfl, f1.gh _ _ h1, lookup_off hm, G1, [.obj C ns ds], z, f1.gh, .cons r1 .nil, e5, fun q o G2 H2 f2 n1 n2 hq top => k q o G2 H2 (f1.trans f2) (f1.ne n1) n2 hq top⟩
    · cases e5
  · cases e5
theorem ok_retT {P : Program} {w : World} {K : PySem.W.Frag} {mg : Str → Option Value} {base : Heap} {x qual : Str} {st : Stmt} {f : Addr} {fd : FuncData} {N ps : List Str} {k : Nat} {ψ : Env → Option D} {e : Expr} {pos : Pos} (F : Fun K x qual st f fd) (S : FnScope N ps (defScope st)) (hB : defBody st = [.Return (some e) pos])
    (hb : ∀ (cdv : Value) (A : Around) (outer : List PySem.Env) (s : Shared) (H : Hp) (E : XK), Room k (A.deeper (envOfC qual (defScope st) s.heap.objs.size f cdv)) → ∃ t, OtD (cxOf CX0 P w K mg base N qual (defScope st) f cdv A outer s H E).nox e t ψ) :
    FnOk P w K mg base CX0 (k + 1) f fd ps (spOt fun ds => if ds.length = ps.length then ψ (env0 N.length ds) else none) := by
  refine F.ok S (fun vs H Q E h => ?_) (fun cdv A outer s H vs Q E hr h => ?_)
  · obtain ⟨G, ds, d, x, r, e, _⟩ := h
    have e : (if ds.length = ps.length then ψ (env0 N.length ds) else none) = some d := e
    split at e
    · rename_i hl; rw [r.len, hl]
    · cases e
  · obtain ⟨G, ds, d, x, r, e, q⟩ := h
    have e : (if ds.length = ps.length then ψ (env0 N.length ds) else none) = some d := e
    obtain ⟨t, b⟩ := hb cdv A outer s H E hr
    refine ⟨tRet t, by rw [hB]; exact pss_one (ps_ret b.pe), ?_⟩
    split at e
    · exact b.ev _ d e G H _ (env0_ok x (N := N) r) _ fun p us G2 H2 f n1 n2 h r => q p us G2 H2 f n1 n2 h r
    · cases e
end
end L2.Tr

/-! Trees: own things frozen ahead of a statement, x = d.pop(k). -/
namespace L2.Tr
open PySem PySem.Spec PyProof.Rows
section
variable {τ β : Type} {Ω : Om τ} {X : Cx} {W : WX} {e o : Expr} {t : TE} {φ : WF τ D} {Φ : WF τ Ou} {st : Stmt} {ts : TS} {pos : Pos}
def frzW (j : Nat) (Φ : WF τ Ou) : WF τ Ou := fun ρ s R => ∃ ρ2, frzE j ρ = some ρ2 ∧ Φ ρ2 s R
def dropL : List Key → List D → Key → List Key × List D
  | k :: ks, d :: ds, x => if k = x then dropL ks ds x else (k :: (dropL ks ds x).1, d :: (dropL ks ds x).2)
  | _, _, _ => ([], [])
/-! Trees: dict(pairs) as a thing of its own; C(e, ..) with one default. -/
namespace L2.Tr
open PySem PySem.Spec PyProof.Rows
section
variable {τ β : Type} {Ω : Om τ} {X : Cx} {K : PySem.W.Frag} {W : WX} {e : Expr} {es : List Expr} {t : TE} {tr : TA} {ψ : WF τ (List D)} {ψd : Env → Option (List D)} {pos : Pos}
def lstsW (φ : WF τ D) : WF τ (List D) := fun ρ s R => φ ρ s fun d s1 => ∃ ds, d = .seq true ds ∧ R ds s1
structure MkrD (P : Program) (w : World) (K : PySem.W.Frag) (mg : Str → Option Value) (base : Heap) (x : Str) (C : Addr) (k : Nat) (dvs : List V) (f : List D → Option (List Str × List D)) : Prop where
  ex : ∃ (a : Addr) (fd : FuncData) (ps : List Str) (ds : List Value), Mk K C a ∧ mg x = some (.ref C) ∧ FnOk P w K mg base CX0 k a fd ps (spI C f) ∧ Binds K fd ps ds ∧ L2.Vals dvs ds
end
end L2.Tr

/-! Trees beside something that changes: how a promise is shown, piece by piece. -/
namespace L2.Tr
open PySem PySem.Spec PyProof.Rows
section
variable {τ β : Type} {ρ : Env} {s : τ} {φ φa φb : WF τ D} {ζ ζ1 ζ2 : WF τ Sl} {χ ξ : WF τ Bool} {ψ : WF τ (List D)} {Φ Ψ : WF τ Ou} {θ : D → Env → Option Env}
end
end L2.Tr

/-! A text times a number; int of one binary sign. -/
namespace L2.Tr
open PySem PySem.Spec PyProof.Rows
/-! Bits of numbers, joined texts, (*a, ..). -/
namespace L2.Tr
open PySem PySem.Spec PyProof.Rows
section
variable {X : Cx} {e a b o : Expr} {es : List Expr} {t ta tb to : TE} {tr : TA} {φ φa φb : Env → Option D} {ψ : Env → Option (List D)} {p pos apos : Pos}
def shlD : D → D → Option D
  | .leaf (.int i), .leaf (.int j) => if 0 ≤ j ∧ j ≤ 1000000 ∧ i.natAbs < 2 ^ 64 then some (.leaf (.int (i * 2 ^ j.toNat))) else none
  | _, _ => none
theorem r2_shl : R2D (rI CPow fun i j => .int (i * 2 ^ j.toNat)) shlD := fun d1 d2 z ee G H v1 v2 x r1 r2 Q k => by
  unfold shlD at ee
  split at ee
  · rename_i i j
    split at ee
    · rename_i hj
      cases ee
      obtain ⟨rfl, _⟩ := r1.lf
      obtain ⟨rfl, _⟩ := r2.lf
      exact ⟨i, j, rfl, rfl, hj, k _ G H (.refl x) (.lf rfl)⟩
    · cases ee
  · cases ee
theorem pu_shl (ha : ViD X a ta φa) (hb : ViD X b tb φb) : PuD X (.BinOp a .LShift b pos) (tOp (rI CPow fun i j => .int (i * 2 ^ j.toNat)) ta tb) (bin2 shlD φa φb) := pu_op op_shl r2_shl ha hb
theorem pu_repS (ha : ViD X a ta φa) (hb : ViD X b tb φb) : PuD X (.BinOp a .Mult b pos) (tOp rRepS ta tb) (bin2 mulSD φa φb) := pu_op op_repS r2_repS ha hb
/-! (*a, ..) -/
def itemsD : D → Option (List D)
  | .seq _ xs => some xs
  | _ => none
def starD (φ : Env → Option D) (ψ : Env → Option (List D)) : Env → Option (List D) := fun ρ => ((φ ρ).bind itemsD).bind fun xs => (ψ ρ).map (xs ++ ·)
theorem Reps.append {G : Hp} : ∀ {ds es : List D} {us vs : List V}, Reps G ds us → Reps G es vs → Reps G (ds ++ es) (us ++ vs)
  | [], es, us, vs, h, h2 => by rw [h.un0]; exact h2
  | d :: ds, es, us, vs, h, h2 => by
    obtain ⟨u, r, rfl, q, tl⟩ := h.un
    exact .cons q (Reps.append tl h2)
theorem ar_star (he : PuD X e t φ) (hr : ArD X es tr ψ) (hs : starEach (.Starred e p :: es) X.env = (true, eval e X.env) :: starEach es X.env := by rfl) : ArD X (.Starred e p :: es) (StX.tStar X.K t tr) (starD φ ψ) := ⟨StX.pa_star he.pe hr.pa hs, fun ρ ds ee G H σ x Q k => by
  obtain ⟨xs, e1, e2⟩ := Option.bind_eq_some_iff.mp ee
  obtain ⟨d, e3, e4⟩ := Option.bind_eq_some_iff.mp e1
  obtain ⟨ys, e5, rfl⟩ := Option.map_eq_some_iff.mp e2
  refine he.ev ρ d e3 G H σ x _ fun v G1 H1 f1 r1 => ?_
  unfold itemsD at e4
  split at e4
  · rename_i bb zs
    cases e4
    obtain ⟨l, us, rfl, h1, _, q⟩ := r1.un_sq
    have h2 : SqT X.K H1 l us ∨ SqL X.K H1 l us := by
      have h3 := f1.gh _ _ h1
      cases bb with
      | true => exact .inr (SqL.of h3)
      | false => exact .inl (SqT.of h3)
    refine ⟨l, us, rfl, h2, hr.ev ρ ys e5 G1 H1 σ (x.mono f1) _ fun vs G2 H2 f2 r2 => ?_⟩
    exact k _ G2 H2 (f1.trans f2) (Reps.append (q.mono f2.g) r2)
  · cases e4⟩
/-! sep.join(texts) -/
def strsD : List D → Option (List Str)
  | [] => some []
  | .leaf (.str x) :: r => (strsD r).map (x :: ·)
  | _ :: _ => none
theorem strsD_un : ∀ {ds : List D} {ys : List Str}, strsD ds = some ys → ds = ys.map fun x => .leaf (.str x)
  | [], ys, h => by cases h; rfl
  | d :: r, ys, h => by
    cases d with
    | leaf v =>
      cases v with
      | str x =>
        obtain ⟨zs, h1, rfl⟩ := Option.map_eq_some_iff.mp (show (strsD r).map (x :: ·) = some ys from h)
        rw [strsD_un h1]; rfl
      | _ => cases h
    | _ => cases h
def joinD : D → D → Option D
  | .leaf (.str a), .seq _ ds => (strsD ds).bind fun ys => if (ys.map (·.length)).sum + ys.length * a.length ≤ 16777216 ∧ (Txt.join a ys).length ≤ 1000 then some (.leaf (.str (Txt.join a ys))) else none
  | _, _ => none
theorem pu_join (ho : PuD X o to φa) (he : PuD X e t φb) (hs : starEach [e] X.env = [(false, eval e X.env)] := by rfl) (hbase : attributeBase o "join" X.env (eval o X.env) = eval o X.env := by rfl) (hline : (apos.endLine == pos.line) = true := by rfl) :
    PuD X (.Call (.Attribute o "join" apos) [e] [] pos) (tM1 (fun x xs H Q => ∃ a p, ∃ ys : List Str, x = .str a ∧ xs = [.ref p] ∧ (SqL X.K H p (ys.map V.str) ∨ SqT X.K H p (ys.map V.str)) ∧ (ys.map (·.length)).sum + ys.length * a.length ≤ 16777216 ∧ Q (.str (Txt.join a ys)) H) to t) (bin2 joinD φa φb) := ⟨pe_join ho.pe he.pe hs hbase hline, fun ρ d ee G H σ x Q k => by
  obtain ⟨d1, e1, e2⟩ := Option.bind_eq_some_iff.mp ee
  obtain ⟨d2, e3, e4⟩ := Option.bind_eq_some_iff.mp e2
  refine ho.ev ρ d1 e1 G H σ x _ fun v1 G1 H1 f1 r1 => ?_
  unfold joinD at e4
  split at e4
  · rename_i a bb ds
    obtain ⟨ys, e5, e6⟩ := Option.bind_eq_some_iff.mp e4
    split at e6
    · rename_i c
      cases e6
      obtain ⟨rfl, _⟩ := r1.un_lf
      refine ⟨⟨a, rfl⟩, he.ev ρ _ e3 G1 H1 σ (x.mono f1) _ fun v2 G2 H2 f2 r2 => ?_⟩
      obtain ⟨l, us, rfl, h1, _, q⟩ := r2.un_sq
      have hu : us = ys.map V.str := by
        rw [strsD_un e5] at q
        have e7 : (ys.map fun x => D.leaf (.str x)) = (ys.map V.str).map D.leaf := by rw [List.map_map]; rfl
        rw [e7] at q
        exact q.un_lfs
      subst hu
      have h3 := f2.gh _ _ h1
      refine ⟨a, l, ys, rfl, rfl, ?_, c.1, k _ G2 H2 (f1.trans f2) (.lf (decide_eq_true c.2))⟩
      cases bb with
      | true => exact .inl (SqL.of h3)
      | false => exact .inr (SqT.of h3)
    · cases e6
  · cases e4⟩
end
end L2.Tr

/-! An instance's own operators between two of its class, ~, and its own call. -/
namespace L2.Tr
open PySem PySem.Spec PyProof.Rows
section
variable {X : Cx} {K : PySem.W.Frag} {C f : Addr} {k : Nat} {fd : FuncData} {ps : List Str} {sp : Sp} {e a b fe : Expr} {es : List Expr} {t ta tb tf : TE} {tr : TA} {φ φa φb : Env → Option D} {ψ : Env → Option (List D)} {pos : Pos} {m : Str}
/-! A stack: s.append(a op s.pop()), s.append(s.pop() op s.pop()). -/
namespace L2.Tr
open PySem PySem.Spec PyProof.Rows
theorem upd_upd {H : Hp} {p : Addr} {o o2 : HO} : upd (upd H p o) p o2 = upd H p o2 := funext fun c => by
  by_cases e : c = p
  · rw [e, upd_same, upd_same]
  · rw [upd_ne e, upd_ne e, upd_ne e]
theorem Reps.un_app {G : Hp} : ∀ {ds es : List D} {us : List V}, Reps G (ds ++ es) us → ∃ u1 u2, us = u1 ++ u2 ∧ Reps G ds u1 ∧ Reps G es u2
  | [], es, us, h => ⟨[], us, rfl, .nil, h⟩
  | d :: ds, es, us, h => by
    obtain ⟨u, r, rfl, q, tl⟩ := Reps.un (ds := ds ++ es) h
    obtain ⟨u1, u2, rfl, h1, h2⟩ := Reps.un_app tl
    exact ⟨u :: u1, u2, rfl, .cons q h1, h2⟩
theorem rev_snoc {α : Type} {xs r : List α} {y : α} (h : xs.reverse = y :: r) : xs = r.reverse ++ [y] := by
  have := congrArg List.reverse h
  rwa [List.reverse_reverse, List.reverse_cons] at this
section
variable {X : Cx} {e : Expr} {t : TE} {φ : Env → Option D} {st : Stmt} {i : Nat} {g : Int → Int → V}
def popLF (i : Nat) (g : Int → Int → V) (φ : Env → Option D) : Env → Option Out := fun ρ => match ρ[i]? with
  | some (.ow (.seq true xs)) => (φ ρ).bind fun d => match d, xs.reverse with
    | .leaf (.int a), .leaf (.int b) :: r => some (.nx (ρ.set i (Sl.ow (.seq true (r.reverse ++ [.leaf (g a b)])))))
    | _, _ => none
  | _ => none
abbrev tPop (K : PySem.W.Frag) (i : Nat) : TE := tBM0 K "list" rPop (tVar i)
theorem sd_popL {o1 o2 : Expr} {op : Operator} {ap1 ap2 cp1 cp2 bp pos : Pos} (lf : ∀ a b, leafy (g a b) = true) (h : PuD X e t φ) (hp : PE X e t → PS X (.Expr (.Call (.Attribute o1 "append" ap1) [.BinOp e op (.Call (.Attribute o2 "pop" ap2) [] [] cp2) bp] [] cp1) pos) (tDrop (tBM X.K "list" rAppend (tVar i) (tCons (tOp (rI0 g) t (tPop X.K i)) tNil)))) :
    StD X (.Expr (.Call (.Attribute o1 "append" ap1) [.BinOp e op (.Call (.Attribute o2 "pop" ap2) [] [] cp2) bp] [] cp1) pos) (tDrop (tBM X.K "list" rAppend (tVar i) (tCons (tOp (rI0 g) t (tPop X.K i)) tNil))) (popLF i g φ) := ⟨hp h.pe, fun ρ o ee G H σ x De k => by
  unfold popLF at ee
  split at ee
  · rename_i xs h1
    obtain ⟨d, e1, e2⟩ := Option.bind_eq_some_iff.mp ee
    split at e2
    · rename_i a b r hr
      cases e2
      obtain ⟨p, ob, h2, h3, h4, us, rfl, h5, h6⟩ := x.ow i _ h1
      have hx := rev_snoc hr
      rw [hx] at h6
      obtain ⟨u1, u2, rfl, q1, q2⟩ := Reps.un_app h6
      obtain ⟨w, ws, rfl, q3, q4⟩ := q2.un
      obtain ⟨rfl, _⟩ := q3.un_lf
      rw [q4.un0] at h4 h6
      refine ⟨_, h2, .inl ⟨rfl, _, SqL.of h4⟩, h.ev ρ _ e1 G H σ x _ fun v G1 H1 f1 r1 => ?_⟩
      obtain ⟨rfl, _⟩ := r1.un_lf
      have h7 := f1.h _ _ h4
      refine ⟨_, h2, .inl ⟨rfl, _, SqL.of h7⟩, p, _, .int b, rfl, rfl, h7, by simp, a, b, rfl, rfl, ?_⟩
      rw [List.dropLast_concat]
      have hl : (r.reverse ++ [D.leaf (g a b)]).length ≤ Lim := by
        have : xs.length = r.reverse.length + 1 := by rw [hx, List.length_append]; rfl
        rw [List.length_append]
        show r.reverse.length + 1 ≤ Lim
        omega
      have gr := grow_ok (x.mono f1) (fun _ _ _ z => by cases z) (ys := .seq true (r.reverse ++ [.leaf (g a b)])) (ob := .lst (u1 ++ [g a b])) h1 h2 ⟨_, rfl, hl, (q1.mono f1.g).app (.cons (.lf (lf a b)) .nil)⟩
      rw [← upd_upd (o := .lst u1)] at gr
      refine ⟨p, u1, g a b, rfl, rfl, upd_same, ?_, k σ G1 _ gr.1 ((FrS.of f1).trans gr.2)⟩
      have : u1.length = r.reverse.length := q1.len
      rw [List.length_append] at hl
      rw [sizeLine_eq]; have : Lim = 5000 := rfl; have : [D.leaf (g a b)].length = 1 := rfl; omega
    · cases e2
  · cases ee⟩
def popBF (i : Nat) (g : Int → Int → V) : Env → Option Out := fun ρ => match ρ[i]? with
  | some (.ow (.seq true xs)) => match xs.reverse with
    | .leaf (.int a) :: .leaf (.int b) :: r => some (.nx (ρ.set i (Sl.ow (.seq true (r.reverse ++ [.leaf (g a b)])))))
    | _ => none
  | _ => none
theorem sd_popB (lf : ∀ a b, leafy (g a b) = true) (hp : PS X st (tDrop (tBM X.K "list" rAppend (tVar i) (tCons (tOp (rI0 g) (tPop X.K i) (tPop X.K i)) tNil)))) :
    StD X st (tDrop (tBM X.K "list" rAppend (tVar i) (tCons (tOp (rI0 g) (tPop X.K i) (tPop X.K i)) tNil))) (popBF i g) := ⟨hp, fun ρ o ee G H σ x De k => by
  unfold popBF at ee
  split at ee
  · rename_i xs h1
    split at ee
    · rename_i a b r hr
      cases ee
      obtain ⟨p, ob, h2, h3, h4, us, rfl, h5, h6⟩ := x.ow i _ h1
      have hx : xs = r.reverse ++ [.leaf (.int b), .leaf (.int a)] := by
        have := rev_snoc hr
        rw [List.reverse_cons, List.append_assoc] at this
        exact this
      rw [hx] at h6
      obtain ⟨u1, u2, rfl, q1, q2⟩ := Reps.un_app h6
      obtain ⟨w, ws, rfl, q3, q4⟩ := q2.un
      obtain ⟨w2, ws2, rfl, q5, q6⟩ := q4.un
      obtain ⟨rfl, _⟩ := q3.un_lf
      obtain ⟨rfl, _⟩ := q5.un_lf
      rw [q6.un0] at h4 h6
      refine ⟨_, h2, .inl ⟨rfl, _, SqL.of h4⟩, ⟨_, h2, .inl ⟨rfl, _, SqL.of h4⟩, p, _, .int a, rfl, rfl, h4, by simp, ?_⟩⟩
      have e1 : (u1 ++ [V.int b, V.int a]).dropLast = u1 ++ [V.int b] := by
        rw [show u1 ++ [V.int b, V.int a] = (u1 ++ [V.int b]) ++ [V.int a] by simp, List.dropLast_concat]
      rw [e1]
      refine ⟨_, h2, .inl ⟨rfl, _, SqL.of upd_same⟩, p, _, .int b, rfl, rfl, upd_same, by simp, a, b, rfl, rfl, ?_⟩
      rw [List.dropLast_concat, upd_upd]
      have hl : (r.reverse ++ [D.leaf (g a b)]).length ≤ Lim := by
        have : xs.length = r.reverse.length + 2 := by rw [hx, List.length_append]; rfl
        rw [List.length_append]
        show r.reverse.length + 1 ≤ Lim
        omega
      have gr := grow_ok x (fun _ _ _ z => by cases z) (ys := .seq true (r.reverse ++ [.leaf (g a b)])) (ob := .lst (u1 ++ [g a b])) h1 h2 ⟨_, rfl, hl, q1.app (.cons (.lf (lf a b)) .nil)⟩
      rw [← upd_upd (o := .lst u1)] at gr
      refine ⟨p, u1, g a b, rfl, rfl, upd_same, ?_, k σ G _ gr.1 gr.2⟩
      have : u1.length = r.reverse.length := q1.len
      rw [List.length_append] at hl
      rw [sizeLine_eq]; have : Lim = 5000 := rfl; have : [D.leaf (g a b)].length = 1 := rfl; omega
    · cases ee
  · cases ee⟩
end
end L2.Tr

/-! xs.index(a text); sorted(ints, key=int). -/
namespace L2.Tr
open PySem PySem.Spec PyProof.Rows
def idxS (x : Str) : List Str → Option Nat
  | [] => none
  | y :: r => if y = x then some 0 else (idxS x r).map (· + 1)
theorem idxS_at {x : Str} : ∀ {ys : List Str} {j : Nat}, idxS x ys = some j → ys[j]? = some x ∧ ∀ (m : Nat) (z : Str), m < j → ys[m]? = some z → z ≠ x
  | [], j, h => by cases h
  | y :: r, j, h => by
    unfold idxS at h
    split at h
    · rename_i e
      cases h
      exact ⟨congrArg some e, fun m z hm _ => absurd hm (Nat.not_lt_zero _)⟩
    · rename_i e
      obtain ⟨i, h1, rfl⟩ := Option.map_eq_some_iff.mp h
      obtain ⟨h2, h3⟩ := idxS_at h1
      refine ⟨h2, fun m z hm hz => ?_⟩
      cases m with
      | zero => cases hz; exact e
      | succ m => exact h3 m z (by omega) hz
def indexD : D → D → Option D
  | .seq true ds, .leaf (.str x) => (strsD ds).bind fun ys => (idxS x ys).map fun j => .leaf (.int (j : Nat))
  | _, _ => none
section
variable {X : Cx} {o e : Expr} {to t : TE} {φa φb : Env → Option D} {apos pos : Pos}
theorem pu_index (ho : PuD X o to φa) (he : PuD X e t φb) (hp : PE X o to → PE X e t → PE X (.Call (.Attribute o "index" apos) [e] [] pos) (tBM X.K "list" (rIndex X.K) to (tCons t tNil))) :
    PuD X (.Call (.Attribute o "index" apos) [e] [] pos) (tBM X.K "list" (rIndex X.K) to (tCons t tNil)) (bin2 indexD φa φb) := ⟨hp ho.pe he.pe, fun ρ d ee G H σ x Q k => by
  obtain ⟨d1, e1, e2⟩ := Option.bind_eq_some_iff.mp ee
  obtain ⟨d2, e3, e4⟩ := Option.bind_eq_some_iff.mp e2
  refine ho.ev ρ d1 e1 G H σ x _ fun v1 G1 H1 f1 r1 => ?_
  unfold indexD at e4
  split at e4
  · rename_i ds y
    obtain ⟨ys, e5, e6⟩ := Option.bind_eq_some_iff.mp e4
    obtain ⟨j, e7, rfl⟩ := Option.map_eq_some_iff.mp e6
    obtain ⟨l, us, rfl, h1, _, q⟩ := r1.un_sq
    have hu : us = ys.map V.str := by
      rw [strsD_un e5, show (ys.map fun x => D.leaf (.str x)) = (ys.map V.str).map D.leaf by rw [List.map_map]; rfl] at q
      exact q.un_lfs
    subst hu
    have h2 := f1.gh _ _ h1
    refine ⟨.inl ⟨rfl, _, SqL.of h2⟩, he.ev ρ _ e3 G1 H1 σ (x.mono f1) _ fun v2 G2 H2 f2 r2 => ?_⟩
    obtain ⟨rfl, _⟩ := r2.un_lf
    obtain ⟨i1, i2⟩ := idxS_at e7
    refine ⟨l, ys.map V.str, .str y, j, .str y, rfl, rfl, SqL.of (f2.h _ _ h2), rfl, ?_, by rw [List.getElem?_map, i1]; rfl, beq_self_eq_true y, fun m z hm hz => ?_, k _ G2 H2 (f1.trans f2) (.lf rfl)⟩
    · rw [List.all_eq_true]
      intro v hv
      obtain ⟨s, _, rfl⟩ := List.mem_map.mp hv
      rfl
    · rw [List.getElem?_map] at hz
      obtain ⟨s, hs, rfl⟩ := Option.map_eq_some_iff.mp hz
      exact beq_eq_false_iff_ne.mpr (i2 m s hm hs)
  · cases e4⟩
end
end L2.Tr

/-! sorted(xs, key=int) of a list or tuple of ints. -/
namespace L2.Tr
open PySem PySem.Spec PyProof.Rows
theorem ints_vals : ∀ {ks : List Int} {us : List Value}, Vals (ks.map V.int) us → IntsAre us ks
  | [], us, h => by cases h; exact .nil
  | k :: ks, us, h => by
    cases h with
    | cons r t =>
      obtain ⟨tk, rfl⟩ := r
      exact .cons k tk (ints_vals t)
section
variable {X : Cx}
theorem collect_any {A : Around} {pins : List (Addr × Obj)} {σ : L2.St} {H : Hp} {s : Shared} {E : Value → Shared → Prop} {a : Addr} {ks : List Int} (I : Inv X pins σ H s) (h : SqT X.K H a (ks.map V.int) ∨ SqL X.K H a (ks.map V.int)) (lim : ks.length < 1000) {Q : List Value → Shared → Prop}
    (q : ∀ (its : List Value) (g : Heap), (∀ b u, s.heap.get? b = some u → g.get? b = some u) → IntsAre its ks → Q its { s with heap := g }) : wpAny (model X.prog X.w) A (collect (.ref a)) Q E s := by
  have fin : ∀ {T : String} {o : Obj} {its : List Value} {n : Nat}, (T = "list" ∨ T = "tuple") → s.heap.get? a = some o → o.cls = .type T → o.data = .seq its.toArray n → Vals (ks.map V.int) its → wpAny (model X.prog X.w) A (collect (.ref a)) Q E s := fun {T o its n} hT ho hc hd r => by
    have len := r.length
    rw [List.length_map] at len
    refine wpAny_collect_seq a hT ho hc hd (fun g keep => ?_) (by rw [List.size_toArray, sizeLine_eq]; omega)
    have e : its.toArray.toList = its := by simp
    rw [e]
    exact q its g keep (ints_vals r)
  rcases h with h | h
  · obtain ⟨its, r, ⟨o, ho, hc, n, hd⟩, _⟩ := I.tuple h
    exact fin (.inr rfl) ho hc hd r
  · obtain ⟨its, r, pl, _⟩ := I.list h
    obtain ⟨o, ho, hc, n, hd⟩ := pl.isList
    exact fin (.inl rfl) ho hc hd r
def rKS (K : PySem.W.Frag) : List V → List V → Hp → VK → Prop := fun vs zs H Q => ∃ (a : Addr) (ks : List Int), vs = [.ref a] ∧ zs = [.ty "int"] ∧ (SqT K H a (ks.map V.int) ∨ SqL K H a (ks.map V.int)) ∧ ks.length < 1000 ∧
  ∀ (up : List Int) (p : Addr), up.Perm ks → up.Pairwise (· ≤ ·) → H p = none → Q (.ref p) (upd H p (.lst (up.map .int)))
theorem cr_sortedKS (room : X.A.units + 9 < cLine) : CallRK X (.builtin "sorted") [Str.ofString "key"] (rKS X.K) := by
  intro pins s σ H xs zs us ws Q I rv rz hw
  obtain ⟨a, ks, rfl, rfl, sq, lim, q⟩ := hw
  obtain rfl := Vals.ref1 rv
  obtain ⟨kf, rfl, ekf⟩ := vals1 rz
  obtain rfl : kf = Value.type "int" := ekf
  refine call_function_entry_kw kind_sorted plain_sorted entry_sorted (ksk_s1 _ _) ?_
  unfold Builtin.«sorted»
  apply wpAny_bind (m := checkCount "sorted" 1 1 _)
  apply wpAny_pure
  apply wpAny_bind
  refine collect_any I sq lim fun its hp1 old are => ?_
  have glen : its.length = ks.length := by rw [(vals_of_ints are).length.symm, List.length_map]
  have I1 : Inv X pins σ H { s with heap := hp1, toks := s.toks } := I.kept old
  apply wpAny_bind
  refine wpAny_newList ?_ (by rw [glen, sizeLine_eq]; omega)
  let hp2 := hp1.push (seqObj "list" its.toArray 0)
  have here : hp2.get? hp1.objs.size = some (seqObj "list" its.toArray 0) := Heap.get?_push_size _ rfl
  show wpAny _ _ _ _ _ { s with heap := hp2 }
  apply wpAny_bind
  apply wpAny_holding
  refine wpAny_call_entry_kw slot_list_sort ⟨_, here, rfl⟩ entry_list_sort ?_ (ksk_l1 _ _)
  show wpAny _ _ (ksk_tree hp1.objs.size (.type "int") false) _ _ _
  have each := each_ints are
  have int_of : ∀ {d : PyData}, d ∈ ks.map PyData.int → ∃ x, d = .int x := fun m => by
    obtain ⟨x, _, e⟩ := List.mem_map.mp m
    exact ⟨x, e.symm⟩
  refine PySem.W.keyH_tree (s := { s with heap := hp2 }) (kz := ks.map PyData.int) (vs := its) here (by rw [List.length_map, glen]) (by rw [glen, sizeLine_eq]; omega) (fun d hd d' hd' => ?_) (.inr fun d hd => ?_) (fun d hd => ?_)
    (PySem.W.keyH_turns (k := PyData.int) each fun v x isx _ hp3 tk3 _ => ?_) fun hp3 tk3 out c kept ko sorted => ⟨_, rfl, ?_⟩
  · obtain ⟨x, rfl⟩ := int_of hd
    obtain ⟨y, rfl⟩ := int_of hd'
    rfl
  · obtain ⟨x, rfl⟩ := int_of hd
    exact ⟨fun z => (by cases z), fun _ z => (by cases z)⟩
  · obtain ⟨x, rfl⟩ := int_of hd
    show X.A.units + 1 + 1 + 0 < cLine
    omega
  · obtain ⟨t, rfl⟩ := isx
    exact call_int_int ⟨hp3, tk3, rfl, fun _ _ z => z, .int x t⟩
  · have outs := ints_of_each (PySem.W.keyedOut_each (rev := false) PyData.int sorted each)
    have perm : (ks.mergeSort (PySem.W.dataLe false PyData.int)).Perm ks := List.mergeSort_perm _ _
    have le := le_of_merge (ks := ks)
    generalize ks.mergeSort (PySem.W.dataLe false PyData.int) = up at outs perm le
    have few : (up.map V.int).length ≤ sizeLine := by rw [List.length_map, perm.length_eq, sizeLine_eq]; omega
    have older : ∀ b u, hp1.get? b = some u → hp3.get? b = some u := fun b u z => kept b u (Nat.ne_of_lt (Heap.lt_size z)) (Heap.get?_push_of_some _ z)
    apply wpAny_pure
    refine ⟨_, rfl, .ref hp1.objs.size, upd H hp1.objs.size (.lst (up.map V.int)), I1.laid (t' := tk3) older (Nat.le_refl _) ?_, rfl, q up _ perm le (I1.hok.fresh (Nat.le_refl _))⟩
    exact ⟨few, out, c, vals_of_ints outs, ko⟩
end
end L2.Tr

/-! sorted(xs, key=int) of a list or tuple of ints, on trees. -/
namespace L2.Tr
open PySem PySem.Spec PyProof.Rows
section
variable {X : Cx} {e : Expr} {t : TE} {φ : Env → Option D} {pos p p2 kp : Pos}
def sortS : D → Option (List D)
  | .seq _ ds => (intsOf ds).bind fun is => if is.length < 1000 then some ((upI is).map intD) else none
  | _ => none
theorem ow_sortS (hu : X.A.units + 9 < cLine) (hg : Gl X "sorted") (hm : X.mg "sorted" = none) (hgi : PE X (.Name "int" p2) (tC (.ty "int"))) (h : PuD X e t φ)
    (he : backTo pos (starEach [e] X.env) = (false, eval e X.env) :: backTo pos (starEach [] X.env) := by rfl) (hs : starEach [e] X.env = [(false, eval e X.env)] := by rfl) (hpl : (backTo pos (starEach [e] X.env)).any (·.1) = false := by rfl)
    (hall : (backToKw pos (keywordEach [⟨some "key", .Name "int" p2, kp⟩] X.env)).all (·.1.isSome) = true := by rfl) (hnone : (backToKw pos (keywordEach [⟨some "key", .Name "int" p2, kp⟩] X.env)).any (·.1.isNone) = false := by rfl) (hks : (backToKw pos (keywordEach [⟨some "key", .Name "int" p2, kp⟩] X.env)).filterMap (·.1) = [Str.ofString "key"] := by rfl) :
    OwD X (.Call (.Name "sorted" p) [e] [⟨some "key", .Name "int" p2, kp⟩] pos) (tCKw (rKS X.K) (tCons t tNil) (tCons (tC (.ty "int")) tNil)) (fun ρ => (φ ρ).bind sortS) := by
  refine ⟨pe_callBK (cr_sortedKS hu) hg hm (by decide +kernel) (pa_cons h.pe pa_nil hs) (pk_cons hgi pk_nil) (by decide) (by decide) he hpl hall hnone hks, fun ρ z ee G H σ x Q k => ?_⟩
  obtain ⟨d, e1, e2⟩ := Option.bind_eq_some_iff.mp ee
  refine h.ev ρ d e1 G H σ x _ fun v G1 H1 f1 r1 => ?_
  unfold sortS at e2
  split at e2
  · rename_i b ds
    obtain ⟨is, h1, h2⟩ := Option.bind_eq_some_iff.mp e2
    obtain rfl := ints_un h1
    split at h2
    · rename_i hl
      cases h2
      obtain ⟨a, us, rfl, hd, l0, rs⟩ := r1.un_sq
      obtain rfl := rs.un_lfs
      have hd := f1.gh _ _ hd
      refine ⟨a, is, rfl, rfl, ?_, hl, fun ys q hp hle nq => ?_⟩
      · cases b with
        | true => exact .inr (SqL.of hd)
        | false => exact .inl (SqT.of hd)
      · obtain rfl := upI_of hp hle
        exact k q _ G1 _ (f1.trans (.tmp f1.gh nq)) (f1.ne nq) (f1.gh.back nq) upd_same (by rw [List.length_map, (upI_perm is).length_eq]; have : Lim = 5000 := rfl; omega) (reps_ints _)
    · cases h2
  · cases e2
end
end L2.Tr

/-! a < b < c as a value. -/
namespace L2.Tr
open PySem PySem.Spec PyProof.Rows
section
variable {X : Cx} {a b c : Expr} {ta tb tc : TE} {φa φb φc : Env → Option D} {pos : Pos}
theorem pu_chain {op op' : CmpOp} {r r' : R2} {o o' : D → D → Option D} (ho : OpR X (compareOp op) r) (ho' : OpR X (compareOp op') r') (hd : R2D r o) (hd' : R2D r' o') (ha : ViD X a ta φa) (hb : ViD X b tb φb) (hc : ViD X c tc φc)
    (hm : lastMarks [op, op'] [b, c] = false := by with_unfolding_all rfl) : PuD X (.Compare a [op, op'] [b, c] pos) (tChain r r' ta tb tc) (chainF o o' φa φb φc) := ⟨pe_chain ho ho' ha.pe hb.pe hc.pe hm, chain_ev hd hd' ha.ev hb.ev hc.ev⟩
end
end L2.Tr

/-! list(range(a, b)). -/
namespace L2.Tr
open PySem PySem.Spec PyProof.Rows
section
variable {X : Cx} {a b : Expr} {ta tb : TE} {φa φb : Env → Option D} {p p1 pos pos1 : Pos}
def rngS : D → D → Option (List D)
  | .leaf (.int i), .leaf (.int j) => if -1000 ≤ i ∧ i ≤ 1000 ∧ -1000 ≤ j ∧ j ≤ 1000 then some (range2L i j) else none
  | _, _ => none
theorem ow_listRg (hc : X.calm = true) (hg : Gl X "list") (hm : X.mg "list" = none) (hg1 : Gl X "range") (hm1 : X.mg "range" = none) (ha : PuD X a ta φa) (hb : PuD X b tb φb)
    (na : starEach [a, b] X.env = (false, eval a X.env) :: starEach [b] X.env := by rfl) (nb : starEach [b] X.env = (false, eval b X.env) :: starEach [] X.env := by rfl) (hp : (backTo pos1 (starEach [b] X.env)).any (·.1) = false := by rfl)
    (nl : starEach [.Call (.Name "range" p1) [a, b] [] pos1] X.env = (false, eval (.Call (.Name "range" p1) [a, b] [] pos1) X.env) :: starEach [] X.env := by rfl) :
    OwD X (.Call (.Name "list" p) [.Call (.Name "range" p1) [a, b] [] pos1] [] pos) (tLstRg (tRg2 ta tb)) (bin2 rngS φa φb) := by
  refine ⟨pe_listRg hc hg hm (prg_2 hg1 hm1 ha.pe hb.pe na nb hp) nl, fun ρ z ee G H σ x Q k => ?_⟩
  obtain ⟨d1, e1, e2⟩ := Option.bind_eq_some_iff.mp ee
  obtain ⟨d2, e3, e4⟩ := Option.bind_eq_some_iff.mp e2
  refine ha.ev ρ d1 e1 G H σ x _ fun v1 G1 H1 f1 r1 => ?_
  refine hb.ev ρ d2 e3 G1 H1 σ (x.mono f1) _ fun v2 G2 H2 f2 r2 => ?_
  unfold rngS at e4
  split at e4
  · rename_i i j
    split at e4
    · rename_i c
      cases e4
      obtain ⟨rfl, _⟩ := r1.un_lf
      obtain ⟨rfl, _⟩ := r2.un_lf
      refine ⟨i, j, rfl, rfl, ⟨by omega, by omega, by omega, by omega, by omega⟩, fun q nq => ?_⟩
      have f := f1.trans f2
      have e : range2L i j = (rgV i j).map D.leaf := by
        unfold range2L rgV
        rw [List.map_map]; rfl
      refine k q _ G2 _ (f.trans (.tmp f2.gh nq)) (f.ne nq) (f2.gh.back nq) upd_same ?_ ?_
      · rw [e, List.length_map, rgV_length]; have : Lim = 5000 := rfl; omega
      · rw [e]
        exact Reps.lfs fun v hv => by
          unfold rgV at hv
          obtain ⟨n, _, rfl⟩ := List.mem_map.mp hv
          rfl
    · cases e4
  · cases e4
def powD : D → D → Option D
  | .leaf (.int i), .leaf (.int j) => if 0 ≤ j ∧ j ≤ 1000000 ∧ i.natAbs < 2 ^ 64 then some (.leaf (.int (i ^ j.toNat))) else none
  | _, _ => none
end
end L2.Tr

/-! a, b = a list. -/
namespace L2.Tr
open PySem PySem.Spec PyProof.Rows
section
variable {X : Cx} {es : List Expr} {pos : Pos}
def lstT (n : Nat) (τ : List D → Env → Option Env) : D → Env → Option Env := fun d ρ => match d with
  | .seq true ds => if ds.length = n then τ ds ρ else none
  | _ => none
theorem tg_lst {k : Nat} {n : Nat} {gs : TGs} {τ : List D → Env → Option Env} (hc : X.calm = true) (h : TgsD X es gs τ) (hn : (assignEach es X.env).length = n := by rfl) (hst : (assignEach es X.env).findIdx? (·.1) = none := by rfl) :
    TgD X (.Tuple es k pos) (gLst X.K n gs) (lstT n τ) := ⟨pg_lst hc h.pg hn hst, fun d ρ ρ2 e G H σ v x r Q k => by
  unfold lstT at e
  split at e
  · rename_i ds
    split at e
    · rename_i hl
      obtain ⟨a, us, rfl, h1, _, q⟩ := r.un_sq
      exact ⟨a, us, rfl, SqL.of (x.gh _ _ h1), by rw [q.len]; exact hl, h.ev ds ρ ρ2 e G H σ us x q Q k⟩
    · cases e
  · cases e⟩
end
end L2.Tr

/-! sorted(set(texts)) on trees. -/
namespace L2.Tr
open PySem PySem.Spec PyProof.Rows _root_.Vs
/-! the one rising list of the texts -/
def leS (a b : Str) : Prop := a.cps.toList ≤ b.cps.toList
/-! int(a text of 0 and 1, 2). -/
namespace L2.Tr
open PySem PySem.Spec PyProof.Rows PySem.NumText
def bc (b : Bool) : Nat := if b then 49 else 48
def bd (b : Bool) : Nat := if b then 1 else 0
def bitS (bs : List Bool) : Str := ⟨(bs.map bc).toArray⟩
/-! Tuples of the module: they stand as references; their length, a walk over them, a star before them. Comprehensions with two for. -/
namespace L2.Tr
open PySem PySem.Spec PyProof.Rows
/-- the tuple of leaves that stands at a from the start -/
structure KT (K : PySem.W.Frag) (a : Addr) (vs : List V) : Prop where
  k : ∃ (o : Obj) (its : Array Value) (n : Nat), K.lookup a = some o ∧ o.cls = .type "tuple" ∧ o.data = .seq its n ∧ its.size ≤ sizeLine ∧ Vals vs its.toList
  l : vs.length ≤ 1000
  f : ∀ v ∈ vs, leafy v = true
theorem KT.sq {K : PySem.W.Frag} {a : Addr} {vs : List V} (h : KT K a vs) (H : Hp) : SqT K H a vs := .inr h.k
theorem vals_one : ∀ {xs : List V} {ys : List V} {us : List Value}, Vals xs us → Vals ys us → xs = ys := by
  intro xs
  induction xs with
  | nil =>
    intro ys us h t
    cases h
    cases t
    rfl
  | cons x xs ih =>
    intro ys us h t
    cases h with
    | cons a r =>
      cases t with
      | cons b t =>
        have e : x = _ := Option.some.inj (a.abs.symm.trans b.abs)
        rw [e, ih r t]
theorem KT.one {K : PySem.W.Frag} {a : Addr} {vs ws : List V} (h : KT K a vs) (h2 : KT K a ws) : vs = ws := by
  obtain ⟨o, its, n, k1, _, k3, _, k5⟩ := h.k
  obtain ⟨o2, its2, n2, j1, _, j3, _, j5⟩ := h2.k
  rw [k1] at j1
  cases j1
  rw [k3] at j3
  cases j3
  exact vals_one k5 j5
open Classical in
noncomputable def ktup (K : PySem.W.Frag) (a : Addr) : Option (List V) := if h : ∃ vs, KT K a vs then some h.choose else none
theorem ktup_of {K : PySem.W.Frag} {a : Addr} {vs : List V} (h : KT K a vs) : ktup K a = some vs := by
  have e : ∃ vs, KT K a vs := ⟨vs, h⟩
  unfold ktup
  rw [dif_pos e]
  exact congrArg some (e.choose_spec.one h)
theorem ktup_un {K : PySem.W.Frag} {a : Addr} {vs : List V} (h : ktup K a = some vs) : KT K a vs := by
  unfold ktup at h
  split at h
  · rename_i e
    cases h
    exact e.choose_spec
  · cases h
/-- what stands in a list, a tuple, a tuple of the module -/
noncomputable def itemsK (K : PySem.W.Frag) : D → Option (List D)
  | .seq _ ds => some ds
  | .leaf (.ref a) => (ktup K a).map fun vs => vs.map D.leaf
  | _ => none
noncomputable def lenG (K : PySem.W.Frag) : List D → Option D
  | [.leaf (.ref a)] => (ktup K a).map fun vs => .leaf (.int vs.length)
  | _ => none
theorem r1_lenG {K : PySem.W.Frag} : R1D (fun xs H Q => ∃ x n, xs = [x] ∧ LenV K x H n ∧ Q (.int n) H) (lenG K) := fun ds z e G H vs x r1 Q k => by
  unfold lenG at e
  split at e
  · rename_i a
    obtain ⟨ws, h, rfl⟩ := Option.map_eq_some_iff.mp e
    obtain ⟨v, rfl, r⟩ := views1 r1
    obtain ⟨rfl, _⟩ := r.lf
    exact ⟨_, ws.length, rfl, .inr ⟨ws, (ktup_un h).sq H, rfl⟩, k _ G H (.refl x) (.lf rfl)⟩
  · cases e
noncomputable abbrev lenAK (K : PySem.W.Frag) : List D → Option D := fun x => ((lenD x).or (lenK x)).or (lenG K x)
noncomputable def seqsK (K : PySem.W.Frag) (φ : Env → Option D) : Env → Option (List D) := fun ρ => (φ ρ).bind (itemsK K)
section
variable {X : Cx} {tg e e1 tg1 elt iter iter1 : Expr} {es : List Expr} {t : TE} {tr : TA} {φ : Env → Option D} {ψ : Env → Option (List D)} {p pos : Pos}
theorem it_seqK (h : PuD X e t φ) : ItD X tg e (fun σ H R => iList X.K t σ H R ∨ iTup X.K t σ H R) (seqsK X.K φ) := ⟨PI.or (pi_list h.pe) (pi_tup h.pe), fun ρ ds ee G H σ x R k => by
  obtain ⟨d, e1, e2⟩ := Option.bind_eq_some_iff.mp ee
  unfold itemsK at e2
  split at e2
  · cases e2
    exact (it_seq (tg := tg) h).ev ρ _ (by unfold seqsF; rw [e1]; rfl) G H σ x R k
  · rename_i a
    obtain ⟨vs, h1, rfl⟩ := Option.map_eq_some_iff.mp e2
    have kt := ktup_un h1
    refine .inr (h.ev ρ _ e1 G H σ x _ fun v G1 H1 f1 r1 => ?_)
    obtain ⟨rfl, _⟩ := r1.un_lf
    exact ⟨a, rfl, ⟨vs, kt.sq H1⟩, k _ G1 H1 (fun H => SqT X.K H a vs) _ f1 (by rw [List.length_map]; exact walk_tup) (fun H' g => kt.sq H') (yat_ok (Reps.lfs kt.f))⟩
  · cases e2⟩
noncomputable def starK (K : PySem.W.Frag) (φ : Env → Option D) (ψ : Env → Option (List D)) : Env → Option (List D) := fun ρ => ((φ ρ).bind (itemsK K)).bind fun xs => (ψ ρ).map (xs ++ ·)
theorem ar_starK (he : PuD X e t φ) (hr : ArD X es tr ψ) (hs : starEach (.Starred e p :: es) X.env = (true, eval e X.env) :: starEach es X.env := by rfl) : ArD X (.Starred e p :: es) (StX.tStar X.K t tr) (starK X.K φ ψ) := ⟨StX.pa_star he.pe hr.pa hs, fun ρ ds ee G H σ x Q k => by
  obtain ⟨xs, e1, e2⟩ := Option.bind_eq_some_iff.mp ee
  obtain ⟨d, e3, e4⟩ := Option.bind_eq_some_iff.mp e1
  obtain ⟨ys, e5, rfl⟩ := Option.map_eq_some_iff.mp e2
  unfold itemsK at e4
  split at e4
  · cases e4
    exact (ar_star (p := p) he hr hs).ev ρ _ (by unfold starD; rw [e3]; show (some _).bind _ = _; rw [Option.bind_some, e5]; rfl) G H σ x Q k
  · rename_i a
    obtain ⟨vs, h1, rfl⟩ := Option.map_eq_some_iff.mp e4
    have kt := ktup_un h1
    refine he.ev ρ _ e3 G H σ x _ fun v G1 H1 f1 r1 => ?_
    obtain ⟨rfl, _⟩ := r1.un_lf
    refine ⟨a, vs, rfl, .inl (kt.sq H1), hr.ev ρ ys e5 G1 H1 σ (x.mono f1) _ fun ws G2 H2 f2 r2 => ?_⟩
    exact k _ G2 H2 (f1.trans f2) (Reps.append (Reps.lfs kt.f) r2)
  · cases e4⟩
/-! two for -/
def cIt (ψ : Env → Option (List D)) : TI := fun σ H R => ∃ (ρ : Env) (ds : List D) (G : Hp), ψ ρ = some ds ∧ EnvOk G H σ ρ ∧
  ∀ J G2 H2 (Γ : Hp → Prop) Y, Fr G H G2 H2 → Walk J ds.length Γ Y → (∀ H', Ex G2 H' → Γ H') →
    (∀ i H' x H'' G', i < ds.length → Ex G2 G' → Ex G' H' → Y i H' x H'' → ∃ d G'', ds[i]? = some d ∧ Fr G' H' G'' H'' ∧ Rep G'' d x) → R J H2
theorem ItD.c {wi : TI} (h : ItD X tg e wi ψ) : PI X tg e (cIt ψ) := ⟨fun pins s σ H R I ⟨ρ, ds, G, h1, h2, h3⟩ => h.pi.run pins s σ H R I (h.ev ρ ds h1 G H σ h2 R h3)⟩
end
def comp2F (θ : D → Env → Option Env) (χ : Env → Option Bool) (ψ1 : Env → Option (List D)) (θ1 : D → Env → Option Env) (χ1 : Env → Option Bool) (φ : Env → Option D) (vs1 : List Nat) : List D → Env → Option (List D)
  | [], _ => some []
  | d :: ds, ρ => (θ d ρ).bind fun ρ1 => (χ ρ1).bind fun b => if b = true then (ψ1 ρ1).bind fun es => (compF θ1 χ1 φ es (wipeE ρ1 vs1)).bind fun ys => (comp2F θ χ ψ1 θ1 χ1 φ vs1 ds ρ).map (ys ++ ·) else comp2F θ χ ψ1 θ1 χ1 φ vs1 ds ρ
def lc2F (vs vs1 : List Nat) (ψ : Env → Option (List D)) (θ : D → Env → Option Env) (χ : Env → Option Bool) (ψ1 : Env → Option (List D)) (θ1 : D → Env → Option Env) (χ1 : Env → Option Bool) (φ : Env → Option D) : Env → Option (List D) := fun ρ => (ψ ρ).bind fun ds => (comp2F θ χ ψ1 θ1 χ1 φ vs1 ds (wipeE ρ vs)).bind fun zs => if zs.length ≤ Lim then some zs else none
section
variable {X : Cx} {θ θ1 : D → Env → Option Env} {χ χ1 : Env → Option Bool} {ψ ψ1 : Env → Option (List D)} {φ : Env → Option D} {wi : TI}
/-- an environment where a list that is none of it has grown -/
theorem EnvOk.but {G H G5 H5 : Hp} {σ : St} {ρ : Env} {Dl : Addr} (x : EnvOk G H σ ρ) (g : Ex G G5) (gh : Ex G5 H5) (hb : ∀ a o, H a = some o → a ≠ Dl → H5 a = some o) (nw : ∀ a, H a ≠ none → G a = none → G5 a = none) (no : ¬ Own σ ρ Dl) : EnvOk G5 H5 σ ρ := by
  refine ⟨gh, x.len, fun i d h => ?_, fun i d h => ?_, x.inj⟩
  · obtain ⟨v, h1, h2⟩ := x.pu i d h
    exact ⟨v, h1, h2.mono g⟩
  · obtain ⟨p, o, h1, h2, h3, h4⟩ := x.ow i d h
    exact ⟨p, o, h1, nw p (by rw [h3]; exact fun z => nomatch z) h2, hb p o h3 (fun e => no ⟨i, d, h, by rw [← e]; exact h1⟩), h4.mono g⟩
theorem own_wipe' {σ : St} {ρ : Env} {vs : List Nat} {a : Addr} (h : Own (L2.wipe σ vs) (wipeE ρ vs) a) : Own σ ρ a := by
  obtain ⟨i, d, h1, h2⟩ := h
  obtain ⟨h3, h4⟩ := wipeE_get (fun z => by cases z) h1
  rw [wipe_out h4] at h2
  exact ⟨i, d, h3, h2⟩
theorem drop_at {α : Type} {ds : List α} {i : Nat} {d : α} (hlt : i < ds.length) (h1 : ds[i]? = some d) : ds.drop i = d :: ds.drop (i + 1) := by
  rw [List.drop_eq_getElem_cons hlt]
  congr 1
  rw [List.getElem?_eq_getElem hlt] at h1
  exact Option.some.inj h1
theorem lc2_ev (vs vs1 : List Nat) (hi : ItS wi ψ) : OwS (tLc2 wi (cTg vs θ) (cTe χ) (cIt ψ1) (cTg vs1 θ1) (cTe χ1) (cPu φ) vs vs1) (lc2F vs vs1 ψ θ χ ψ1 θ1 χ1 φ) := fun ρ zs ee G H σ x Q k => by
  obtain ⟨ds, e1, e2⟩ := Option.bind_eq_some_iff.mp ee
  obtain ⟨zs', e2, e3⟩ := Option.bind_eq_some_iff.mp e2
  split at e3
  rotate_left
  · cases e3
  rename_i hlim
  cases e3
  refine hi ρ ds e1 G H σ x _ fun J G1 H1 Γ Y f1 wk hΓ hY => fun Dl nD => ?_
  have x0 := x.mono f1
  have x1 := x0.wipe vs
  have fresh : ∀ {σ' ρ'}, (∀ a, Own σ' ρ' a → Own (L2.wipe σ vs) (wipeE ρ vs) a) → ¬ Own σ' ρ' Dl := fun {σ' ρ'} hs z => own_free x1 nD (hs _ z)
  refine ⟨fun i m H => m = ds.length - i ∧ i ≤ ds.length ∧ ∃ G' acc us rest, Fr G1 H1 G' H ∧ G' Dl = none ∧ H Dl = some (.lst us) ∧ Reps G' acc us ∧ comp2F θ χ ψ1 θ1 χ1 φ vs1 (ds.drop i) (wipeE ρ vs) = some rest ∧ zs = acc ++ rest,
    ⟨ds.length, by simp, Nat.zero_le _, G1, [], [], zs, .tmp f1.gh nD, f1.gh.back nD, upd_same, .nil, by rw [List.drop_zero]; exact e2, rfl⟩, ?_⟩
  rintro i m H' ⟨rfl, hi', G', acc, us, rest, f', nG, hD, ra, hc, hz⟩
  have q : Γ H' := hΓ H' (f'.g.trans f'.gh)
  by_cases hlt : i < ds.length
  rotate_left
  · obtain rfl : i = ds.length := by omega
    rw [List.drop_length] at hc
    cases hc
    rw [List.append_nil] at hz
    subst hz
    exact .inl ⟨wk.stops H' q, k Dl us G' H' (f1.trans f') (f1.ne nD) nG hD hlim ra⟩
  refine .inr ⟨wk.goes i H' hlt q, fun H2 => ∃ G' acc us rest, Fr G1 H1 G' H2 ∧ G' Dl = none ∧ H2 Dl = some (.lst us) ∧ Reps G' acc us ∧ comp2F θ χ ψ1 θ1 χ1 φ vs1 (ds.drop (i + 1)) (wipeE ρ vs) = some rest ∧ zs = acc ++ rest,
    fun H2 p2 => ⟨ds.length - (i + 1), by omega, rfl, hlt, p2⟩, fun y H'' yy => ?_⟩
  obtain ⟨d, G'', h1, f2, r2⟩ := hY i H' y H'' G' hlt f'.g f'.gh (wk.yields i H' y H'' hlt q yy)
  rw [drop_at hlt h1] at hc
  unfold comp2F at hc
  obtain ⟨ρ1, e3, hc⟩ := Option.bind_eq_some_iff.mp hc
  obtain ⟨b, e4, hc⟩ := Option.bind_eq_some_iff.mp hc
  have f12 := f'.trans f2
  have nG2 : G'' Dl = none := f2.nw _ (by rw [hD]; exact fun z => by cases z) nG
  have hD2 := f2.h _ _ hD
  refine ⟨wipeE ρ vs, ρ1, d, G'', e3, x1.mono f12, r2, fun σ2 x2 o2 w2 => ⟨by rw [w2, wipe_wipe fun _ z => z], ρ1, b, G'', e4, x2, fun G3 H3 f3 => ?_⟩⟩
  have nG3 : G3 Dl = none := f3.nw _ (by rw [hD2]; exact fun z => by cases z) nG2
  have hD3 := f3.h _ _ hD2
  have f13 := f12.trans f3
  have ra3 := ra.mono (f2.g.trans f3.g)
  cases b with
  | false =>
    dsimp only
    rw [if_neg (by decide)] at hc ⊢
    exact ⟨G3, acc, us, rest, f13, nG3, hD3, ra3, hc, hz⟩
  | true =>
    dsimp only
    rw [if_pos rfl] at hc ⊢
    obtain ⟨es, e5, hc⟩ := Option.bind_eq_some_iff.mp hc
    obtain ⟨ys, e6, hc⟩ := Option.bind_eq_some_iff.mp hc
    obtain ⟨rest2, e7, rfl⟩ := Option.map_eq_some_iff.mp hc
    have x3 := x2.mono f3
    refine ⟨ρ1, es, G3, e5, x3, fun J1 G4 H4 Γ1 Y1 f4 wk1 hΓ1 hY1 => ?_⟩
    have nG4 : G4 Dl = none := f4.nw _ (by rw [hD3]; exact fun z => by cases z) nG3
    have hD4 := f4.h _ _ hD3
    have x4 := x3.mono f4
    have f14 := f13.trans f4
    have no4 : ¬ Own σ2 ρ1 Dl := fresh o2
    have no4w : ¬ Own (L2.wipe σ2 vs1) (wipeE ρ1 vs1) Dl := fun z => no4 (own_wipe' z)
    refine ⟨fun j n H5 => n = es.length - j ∧ j ≤ es.length ∧ ∃ G5 acc5 us5 rest5, Ex G4 G5 ∧ Ex G5 H5 ∧ (∀ a o, H4 a = some o → a ≠ Dl → H5 a = some o) ∧ (∀ a, H4 a ≠ none → G4 a = none → G5 a = none) ∧ G5 Dl = none ∧ H5 Dl = some (.lst us5) ∧ Reps G5 acc5 us5 ∧ compF θ1 χ1 φ (es.drop j) (wipeE ρ1 vs1) = some rest5 ∧ zs = acc5 ++ (rest5 ++ rest2),
      ⟨es.length, by simp, Nat.zero_le _, G4, acc, us, ys, Ex.refl _, f4.gh, fun a o h _ => h, fun a _ h => h, nG4, hD4, ra3.mono f4.g, by rw [List.drop_zero]; exact e6, hz⟩, ?_⟩
    rintro j n H5 ⟨rfl, hj', G5, acc5, us5, rest5, g45, gh5, hb5, nw5, nG5, hD5, ra5, hc5, hz5⟩
    have q5 : Γ1 H5 := hΓ1 H5 (g45.trans gh5)
    have f15 : Fr G1 H1 G5 H5 := ⟨f14.g.trans g45, gh5, fun a o h => hb5 a o (f14.h a o h) (ne_of_none h nD), fun a h h2 => nw5 a (by
      cases e : H1 a with
      | none => exact absurd e h
      | some o => rw [f14.h a o e]; exact fun z => nomatch z) (f14.nw a h h2)⟩
    by_cases hlt5 : j < es.length
    rotate_left
    · obtain rfl : j = es.length := by omega
      rw [List.drop_length] at hc5
      cases hc5
      exact .inl ⟨wk1.stops H5 q5, G5, acc5, us5, rest2, f15, nG5, hD5, ra5, e7, hz5⟩
    refine .inr ⟨wk1.goes j H5 hlt5 q5, fun H6 => ∃ G5 acc5 us5 rest5, Ex G4 G5 ∧ Ex G5 H6 ∧ (∀ a o, H4 a = some o → a ≠ Dl → H6 a = some o) ∧ (∀ a, H4 a ≠ none → G4 a = none → G5 a = none) ∧ G5 Dl = none ∧ H6 Dl = some (.lst us5) ∧ Reps G5 acc5 us5 ∧ compF θ1 χ1 φ (es.drop (j + 1)) (wipeE ρ1 vs1) = some rest5 ∧ zs = acc5 ++ (rest5 ++ rest2),
      fun H6 p6 => ⟨es.length - (j + 1), by omega, rfl, hlt5, p6⟩, fun y1 H6 yy1 => ?_⟩
    obtain ⟨d1, G6, h6, f6, r6⟩ := hY1 j H5 y1 H6 G5 hlt5 g45 gh5 (wk1.yields j H5 y1 H6 hlt5 q5 yy1)
    rw [drop_at hlt5 h6] at hc5
    unfold compF at hc5
    obtain ⟨ρ2, e8, hc5⟩ := Option.bind_eq_some_iff.mp hc5
    obtain ⟨b1, e9, hc5⟩ := Option.bind_eq_some_iff.mp hc5
    have x5 : EnvOk G5 H5 (L2.wipe σ2 vs1) (wipeE ρ1 vs1) := (x4.wipe vs1).but g45 gh5 hb5 nw5 no4w
    have nG6 : G6 Dl = none := f6.nw _ (by rw [hD5]; exact fun z => by cases z) nG5
    have hD6 := f6.h _ _ hD5
    have keep : ∀ {G7 H7 : Hp}, Fr G5 H5 G7 H7 → (∀ a o, H4 a = some o → a ≠ Dl → H7 a = some o) ∧ ∀ a, H4 a ≠ none → G4 a = none → G7 a = none := fun {G7 H7} f => ⟨fun a o h n => f.h a o (hb5 a o h n), fun a h h2 => by
      by_cases e : a = Dl
      · rw [e]; exact f.nw Dl (by rw [hD5]; exact fun z => nomatch z) nG5
      · refine f.nw a ?_ (nw5 a h h2)
        cases e2 : H4 a with
        | none => exact absurd e2 h
        | some o => rw [hb5 a o e2 e]; exact fun z => nomatch z⟩
    refine ⟨wipeE ρ1 vs1, ρ2, d1, G6, e8, x5.mono f6, r6, fun σ3 x6 _ w6 => ⟨by rw [w6, wipe_wipe fun _ z => z], ρ2, b1, G6, e9, x6, fun G7 H7 f7 => ?_⟩⟩
    have f57 := f6.trans f7
    have nG7 : G7 Dl = none := f7.nw _ (by rw [hD6]; exact fun z => by cases z) nG6
    have hD7 := f7.h _ _ hD6
    cases b1 with
    | false =>
      dsimp only
      rw [if_neg (by decide)] at hc5 ⊢
      exact ⟨G7, acc5, us5, rest5, g45.trans f57.g, f57.gh, (keep f57).1, (keep f57).2, nG7, hD7, ra5.mono f57.g, hc5, hz5⟩
    | true =>
      dsimp only
      rw [if_pos rfl] at hc5 ⊢
      obtain ⟨z, e10, hc5⟩ := Option.bind_eq_some_iff.mp hc5
      obtain ⟨rest6, e11, rfl⟩ := Option.map_eq_some_iff.mp hc5
      refine ⟨ρ2, z, G7, e10, x6.mono f7, fun v G8 H8 f8 r8 => ?_⟩
      have f58 := f57.trans f8
      have nG8 : G8 Dl = none := f8.nw _ (by rw [hD7]; exact fun z => by cases z) nG7
      have hD8 := f8.h _ _ hD7
      have ln : acc5.length < zs.length := by rw [hz5]; simp
      refine ⟨us5, hD8, by rw [ra5.len, sizeLine_eq]; have : Lim = 5000 := rfl; omega, G8, acc5 ++ [z], us5 ++ [v], rest6, g45.trans f58.g, fun a o h => ?_, fun a o h n => ?_, (keep f58).2, nG8, upd_same, (ra5.mono f58.g).app (.cons r8 .nil), e11, by rw [hz5, List.append_assoc]; rfl⟩
      · have : a ≠ Dl := fun e => by rw [e, nG8] at h; cases h
        rw [upd_ne this]; exact f58.gh _ _ h
      · rw [upd_ne n]; exact (keep f58).1 a o h n
end
section
variable {X : Cx} {tg tg1 elt iter iter1 c : Expr} {scope : Scope} {own : List (Str × Nat)} {vs1 : List Nat} {ψ ψ1 : Env → Option (List D)} {θ θ1 : D → Env → Option Env} {χ χ1 : Env → Option Bool} {φ : Env → Option D} {wi : TI} {pos : Pos}
/-- [elt for tg in iter if c for tg1 in iter1] -/
theorem lcI2 (own : List (Str × Nat)) (vs1 : List Nat) {g : Shared → Hp → Addr → List (Str × Addr) → List Addr → TG} {tt : Shared → Hp → Addr → List (Str × Addr) → List Addr → TT} {wi1 : Shared → Hp → Addr → List (Str × Addr) → List Addr → TI} {g1 : Shared → Hp → Addr → List (Str × Addr) → List Addr → TG} {te : Shared → Hp → Addr → List (Str × Addr) → List Addr → TE}
    (hi : ItD X tg iter wi ψ) (ok : BlkOk X.N X.env.scope scope own) (hv : ∀ i ∈ vs1, i ∈ own.map (·.2))
    (hg : ∀ (s : Shared) (H : Hp) (C : Addr) (cl : List (Str × Addr)) (fp : List Addr), TgD (X.blk s H scope (compEnvC scope cl C X.env) fp) tg (g s H C cl fp) θ) (hw : ∀ s H C cl fp, TgW (g s H C cl fp) (own.map (·.2)))
    (ht : ∀ (s : Shared) (H : Hp) (C : Addr) (cl : List (Str × Addr)) (fp : List Addr), TeD (X.blk s H scope (compEnvC scope cl C X.env) fp) c (tt s H C cl fp) χ)
    (hi1 : ∀ (s : Shared) (H : Hp) (C : Addr) (cl : List (Str × Addr)) (fp : List Addr), ItD (X.blk s H scope (compEnvC scope cl C X.env) fp) tg1 iter1 (wi1 s H C cl fp) ψ1)
    (hg1 : ∀ (s : Shared) (H : Hp) (C : Addr) (cl : List (Str × Addr)) (fp : List Addr), TgD (X.blk s H scope (compEnvC scope cl C X.env) fp) tg1 (g1 s H C cl fp) θ1) (hw1 : ∀ s H C cl fp, TgW (g1 s H C cl fp) vs1)
    (he : ∀ (s : Shared) (H : Hp) (C : Addr) (cl : List (Str × Addr)) (fp : List Addr), PuD (X.blk s H scope (compEnvC scope cl C X.env) fp) elt (te s H C cl fp) φ) (hc : X.calm = true) (hN : X.N.Nodup)
    (hs : ∀ x, foldedSetIterable iter X.env x = pure x := by intro _; rfl) (hs1 : ∀ env x, foldedSetIterable iter1 env x = pure x := by intro _ _; rfl) :
    OwD X (.ListComp elt [⟨tg, iter, [c], 0⟩, ⟨tg1, iter1, [], 0⟩] scope pos) (tLc2 wi (cTg (own.map (·.2)) θ) (cTe χ) (cIt ψ1) (cTg vs1 θ1) (cTe yesF) (cPu φ) (own.map (·.2)) vs1) (lc2F (own.map (·.2)) vs1 ψ θ χ ψ1 θ1 yesF φ) :=
  ⟨pe_lc2 hc hN hi.pi ok hv (fun s H C cl fp => (hg s H C cl fp).c (hw s H C cl fp)) (fun s H C cl fp => pts_one (ht s H C cl fp).c) (fun s H C cl fp => (hi1 s H C cl fp).c) (fun s H C cl fp => (hg1 s H C cl fp).c (hw1 s H C cl fp))
    (fun s H C cl fp => ⟨fun pins s' σ H' Q I ⟨ρ, b, G, h1, h2, h3⟩ => pts_nil.run pins s' σ H' Q I (ts_nil ρ b h1 G H' σ h2 Q h3)⟩) (fun s H C cl fp => (he s H C cl fp).c) hs hs1, lc2_ev _ _ hi.ev⟩
end
end L2.Tr

namespace L2.K1
open PySem PySem.Spec PyProof.Rows L2.Tr
def top (i : Nat) : Stmt := PySem.Challenge.pw_toldthere_k08_statements_alike.main.body.getD i (.Pass ⟨0, 0, 0, 0⟩)
noncomputable section
variable {P : Program} {w : World} {K : PySem.W.Frag} {mg : Str → Option Value} {base : Heap}
abbrev sCount : Stmt := top 40
abbrev nCount : List Str := ["axes", "count", "axis"]
theorem scCount : FnScope nCount ["axes"] (defScope sCount) := ⟨rfl, rfl, rfl, by decide +kernel, rfl, by decide +kernel, by decide +kernel⟩
def FCount (K : PySem.W.Frag) : L2.Tr.Env → Option Out := (seqF (asgF (kD (.leaf (.int 1))) (setF 1)) (seqF (forF (seqsF (atP 0)) (setF 2) (asgF (bin2 mulD (atP 1) (app1 (lenAK K) (consD (atP 2) nilD))) (setF 1))) (retF (atP 1))))
def fCount (K : PySem.W.Frag) (ds : List D) : Option D := if ds.length = (["axes"] : List Str).length then runF nCount.length (FCount K ) ds else none
theorem okCount {f : Addr} {fd : FuncData} (F : Fun K "_count" "_count" sCount f fd) (B : TxB2 mg) : FnOk P w K mg base CX0 1 f fd ["axes"] (spP (fCount K )) :=
  ok_def (N := nCount) (Φ := FCount K ) F scCount fun cdv A outer s H E hr => ⟨_, (ss_cons (sd_nm (pu_c pe_int rfl) (fun h => ps_set (i := 1) scCount.nd rfl (by first | exact Or.inl rfl | exact Or.inr rfl) h)) (ss_cons (sd_for PassesOwn.never rfl (it_seq (pu_var (pv 0))) (tg_name (pg_name (i := 2) scCount.nd rfl (by first | exact Or.inl rfl | exact Or.inr rfl))) (ss_one (sd_nm (pu_mul (PuD.vi (pu_var (pv 1))) (PuD.vi (pu_cb (CallR.or (CallR.or call_len call_lenD) call_len) (R1D.or (R1D.or r1_len r1_lenK) r1_lenG) (by rfl) B.z_len (by decide +kernel) (av_cons (PuD.vi (pu_var (pv 2))) av_nil)))) (fun h => ps_set (i := 1) scCount.nd rfl (by first | exact Or.inl rfl | exact Or.inr rfl) h)))) (ss_one (sd_ret (pu_var (pv 1))))))⟩
abbrev sFIn : Stmt := top 41
abbrev nFIn : List Str := ["axes", "at", "things", "inner", "digits", "thing"]
theorem scFIn : FnScope nFIn ["axes", "at", "things"] (defScope sFIn) := ⟨rfl, rfl, rfl, by decide +kernel, rfl, by decide +kernel, by decide +kernel⟩
def FFIn (K : PySem.W.Frag) : L2.Tr.Env → Option Out := (seqF (asgF (app1 (fCount K) (consD (orE (mapS (slF slO (atP 0) (partF (bin2 addD (atP 1) (kD (.leaf (.int 1))))) (fun _ => some none))) (slF slT (atP 0) (partF (bin2 addD (atP 1) (kD (.leaf (.int 1))))) (fun _ => some none))) nilD)) (setF 3)) (seqF (asgF (mapS (lcF [5] (seqsK K (bin2 ixD (atP 0) (atP 1))) (setF 5) yesF (ifF (asBF (bin2 (inD false) (atP 5) (atP 2))) (bin2 mulSD (kD (.leaf (.str "1"))) (atP 3)) (bin2 mulSD (kD (.leaf (.str "0"))) (atP 3))))) (setF 4)) (retF (app1 int2B (consD (bin2 mulSD (bin2 joinD (kD (.leaf (.str ""))) (atP 4)) (app1 (fCount K) (consD (orE (mapS (slF slO (atP 0) (fun _ => some none) (partF (atP 1)))) (slF slT (atP 0) (fun _ => some none) (partF (atP 1)))) nilD))) (consD (kD (.leaf (.int 2))) nilD))))))
def fFIn (K : PySem.W.Frag) (ds : List D) : Option D := if ds.length = (["axes", "at", "things"] : List Str).length then runF nFIn.length (FFIn K ) ds else none
theorem okFIn {f : Addr} {fd : FuncData} (F : Fun K "_found_in" "_found_in" sFIn f fd) (B : TxB2 mg) (hCt : Fn P w K mg base "_count" 1 1 (fCount K)) : FnOk P w K mg base CX0 2 f fd ["axes", "at", "things"] (spP (fFIn K )) :=
  ok_def (N := nFIn) (Φ := FFIn K ) F scFIn fun cdv A outer s H E hr => ⟨_, (ss_cons (sd_nm (pu_call hCt (hr.mono (by first | decide | omega)) (by rfl) (ar_cons (PuD.or (OwD.pu (ow_sl (PuD.vi (pu_var (pv 0))) (so_some (pu_add (PuD.vi (pu_var (pv 1))) (PuD.vi (pu_c pe_int rfl)))) so_none)) (pu_slT (PuD.vi (pu_var (pv 0))) (so_some (pu_add (PuD.vi (pu_var (pv 1))) (PuD.vi (pu_c pe_int rfl)))) so_none)) ar_nil)) (fun h => ps_set (i := 3) scFIn.nd rfl (by first | exact Or.inl rfl | exact Or.inr rfl) h)) (ss_cons (sd_set (OwD.pu (LcD.ow (lc0 [("thing", 5)] (it_seqK (pu_ix (PuD.vi (pu_var (pv 0))) (PuD.vi (pu_var (pv 1))) (fun _ _ => rfl))) (blkOk_by (N := nFIn) (sc := defScope sFIn) (by decide +kernel)) (fun _ _ _ _ _ => (tg_name (pg_name (i := 5) scFIn.nd rfl (Or.inl rfl)))) (fun _ _ _ _ _ => (tw_name (by decide))) (fun _ _ _ _ _ => (pu_if (te_cmp op_in_seq r2_in (by with_unfolding_all rfl) (PuD.vi (pu_var (pv 5))) (PuD.vi (pu_var (pv 2)))) (pu_repS (PuD.vi (pu_c pe_str (by decide +kernel))) (PuD.vi (pu_var (pv 3)))) (pu_repS (PuD.vi (pu_c pe_str (by decide +kernel))) (PuD.vi (pu_var (pv 3))))))) rfl scFIn.nd)) (LcD.set (i := 4) (lc0 [("thing", 5)] (it_seqK (pu_ix (PuD.vi (pu_var (pv 0))) (PuD.vi (pu_var (pv 1))) (fun _ _ => rfl))) (blkOk_by (N := nFIn) (sc := defScope sFIn) (by decide +kernel)) (fun _ _ _ _ _ => (tg_name (pg_name (i := 5) scFIn.nd rfl (Or.inl rfl)))) (fun _ _ _ _ _ => (tw_name (by decide))) (fun _ _ _ _ _ => (pu_if (te_cmp op_in_seq r2_in (by with_unfolding_all rfl) (PuD.vi (pu_var (pv 5))) (PuD.vi (pu_var (pv 2)))) (pu_repS (PuD.vi (pu_c pe_str (by decide +kernel))) (PuD.vi (pu_var (pv 3)))) (pu_repS (PuD.vi (pu_c pe_str (by decide +kernel))) (PuD.vi (pu_var (pv 3))))))) rfl scFIn.nd rfl rfl (sw_true rfl rfl rfl (by decide +kernel)))) (ss_one (sd_ret (pu_cty call_int_bits r1_intB (by rfl) B.z_int (by decide +kernel) (av_cons (PuD.vi (pu_repS (PuD.vi (pu_join (pu_c pe_str (by decide +kernel)) (pu_var (pv 4)))) (PuD.vi (pu_call hCt (hr.mono (by first | decide | omega)) (by rfl) (ar_cons (PuD.or (OwD.pu (ow_sl (PuD.vi (pu_var (pv 0))) so_none (so_some (pu_var (pv 1))))) (pu_slT (PuD.vi (pu_var (pv 0))) so_none (so_some (pu_var (pv 1))))) ar_nil))))) (av_cons (PuD.vi (pu_c pe_int rfl)) av_nil)))))))⟩
abbrev sFSame : Stmt := top 42
abbrev nFSame : List Str := ["axes", "first", "second", "between", "inner", "digits", "one", "other"]
theorem scFSame : FnScope nFSame ["axes", "first", "second"] (defScope sFSame) := ⟨rfl, rfl, rfl, by decide +kernel, rfl, by decide +kernel, by decide +kernel⟩
def FFSame (K : PySem.W.Frag) : L2.Tr.Env → Option Out := (seqF (asgF (tupDisp (consD (app1 (fCount K) (consD (orE (mapS (slF slO (atP 0) (partF (bin2 addD (atP 1) (kD (.leaf (.int 1))))) (partF (atP 2)))) (slF slT (atP 0) (partF (bin2 addD (atP 1) (kD (.leaf (.int 1))))) (partF (atP 2)))) nilD)) (consD (app1 (fCount K) (consD (orE (mapS (slF slO (atP 0) (partF (bin2 addD (atP 2) (kD (.leaf (.int 1))))) (fun _ => some none))) (slF slT (atP 0) (partF (bin2 addD (atP 2) (kD (.leaf (.int 1))))) (fun _ => some none))) nilD)) nilD))) (tupT 2 (consT (setF 3) (consT (setF 4) nilT)))) (seqF (asgF (mapS (lcF [6] (seqsK K (bin2 ixD (atP 0) (atP 1))) (setF 6) yesF (bin2 mulSD (bin2 joinD (kD (.leaf (.str ""))) (mapS (lcF [7] (seqsK K (bin2 ixD (atP 0) (atP 2))) (setF 7) yesF (ifF (asBF (bin2 (scD false) (atP 6) (atP 7))) (bin2 mulSD (kD (.leaf (.str "1"))) (atP 4)) (bin2 mulSD (kD (.leaf (.str "0"))) (atP 4)))))) (atP 3)))) (setF 5)) (retF (app1 int2B (consD (bin2 mulSD (bin2 joinD (kD (.leaf (.str ""))) (atP 5)) (app1 (fCount K) (consD (orE (mapS (slF slO (atP 0) (fun _ => some none) (partF (atP 1)))) (slF slT (atP 0) (fun _ => some none) (partF (atP 1)))) nilD))) (consD (kD (.leaf (.int 2))) nilD))))))
def fFSame (K : PySem.W.Frag) (ds : List D) : Option D := if ds.length = (["axes", "first", "second"] : List Str).length then runF nFSame.length (FFSame K ) ds else none
theorem okFSame {f : Addr} {fd : FuncData} (F : Fun K "_found_same" "_found_same" sFSame f fd) (B : TxB2 mg) (hCt : Fn P w K mg base "_count" 1 1 (fCount K)) : FnOk P w K mg base CX0 2 f fd ["axes", "first", "second"] (spP (fFSame K )) :=
  ok_def (N := nFSame) (Φ := FFSame K ) F scFSame fun cdv A outer s H E hr => ⟨_, (ss_cons (sd_asg (pu_tup (ar_cons (pu_call hCt (hr.mono (by first | decide | omega)) (by rfl) (ar_cons (PuD.or (OwD.pu (ow_sl (PuD.vi (pu_var (pv 0))) (so_some (pu_add (PuD.vi (pu_var (pv 1))) (PuD.vi (pu_c pe_int rfl)))) (so_some (pu_var (pv 2))))) (pu_slT (PuD.vi (pu_var (pv 0))) (so_some (pu_add (PuD.vi (pu_var (pv 1))) (PuD.vi (pu_c pe_int rfl)))) (so_some (pu_var (pv 2))))) ar_nil)) (ar_cons (pu_call hCt (hr.mono (by first | decide | omega)) (by rfl) (ar_cons (PuD.or (OwD.pu (ow_sl (PuD.vi (pu_var (pv 0))) (so_some (pu_add (PuD.vi (pu_var (pv 2))) (PuD.vi (pu_c pe_int rfl)))) so_none)) (pu_slT (PuD.vi (pu_var (pv 0))) (so_some (pu_add (PuD.vi (pu_var (pv 2))) (PuD.vi (pu_c pe_int rfl)))) so_none)) ar_nil)) ar_nil))) (tg_tup rfl (tgs_cons (tg_name (pg_name (i := 3) scFSame.nd rfl (by first | exact Or.inl rfl | exact Or.inr rfl))) (tgs_cons (tg_name (pg_name (i := 4) scFSame.nd rfl (by first | exact Or.inl rfl | exact Or.inr rfl))) tgs_nil)))) (ss_cons (sd_set (OwD.pu (LcD.ow (lc0 [("one", 6)] (it_seqK (pu_ix (PuD.vi (pu_var (pv 0))) (PuD.vi (pu_var (pv 1))) (fun _ _ => rfl))) (blkOk_by (N := nFSame) (sc := defScope sFSame) (by decide +kernel)) (fun _ _ _ _ _ => (tg_name (pg_name (i := 6) scFSame.nd rfl (by first | exact Or.inl rfl | exact Or.inr rfl)))) (fun _ _ _ _ _ => (tw_name (by decide))) (fun _ _ _ _ _ => (pu_repS (PuD.vi (pu_join (pu_c pe_str (by decide +kernel)) (OwD.pu (LcD.ow (lc0 [("other", 7)] (it_seqK (pu_ix (PuD.vi (pu_var (pv 0))) (PuD.vi (pu_var (pv 2))) (fun _ _ => rfl))) (blkOk_by (N := nFSame) (sc := { kind := .function, names := [(".0", .local), ("one", .cell), ("axes", .cell), ("between", .cell), ("inner", .cell), ("second", .cell)], isGenerator := false, isCoroutine := false }) (scope := { kind := .function, names := [(".0", .local), ("other", .local), ("inner", .free), ("one", .free)], isGenerator := false, isCoroutine := false }) (own := [("other", 7)]) (by decide +kernel)) (fun _ _ _ _ _ => (tg_name (pg_name (i := 7) scFSame.nd rfl (Or.inl rfl)))) (fun _ _ _ _ _ => (tw_name (by decide))) (fun _ _ _ _ _ => (pu_if (te_cmp op_eq r2_eqS (nomark _) (PuD.vi (pu_var (pv 6))) (PuD.vi (pu_var (pv 7)))) (pu_repS (PuD.vi (pu_c pe_str (by decide +kernel))) (PuD.vi (pu_var (pv 4)))) (pu_repS (PuD.vi (pu_c pe_str (by decide +kernel))) (PuD.vi (pu_var (pv 4))))))) rfl scFSame.nd)))) (PuD.vi (pu_var (pv 3)))))) rfl scFSame.nd)) (LcD.set (i := 5) (lc0 [("one", 6)] (it_seqK (pu_ix (PuD.vi (pu_var (pv 0))) (PuD.vi (pu_var (pv 1))) (fun _ _ => rfl))) (blkOk_by (N := nFSame) (sc := defScope sFSame) (by decide +kernel)) (fun _ _ _ _ _ => (tg_name (pg_name (i := 6) scFSame.nd rfl (by first | exact Or.inl rfl | exact Or.inr rfl)))) (fun _ _ _ _ _ => (tw_name (by decide))) (fun _ _ _ _ _ => (pu_repS (PuD.vi (pu_join (pu_c pe_str (by decide +kernel)) (OwD.pu (LcD.ow (lc0 [("other", 7)] (it_seqK (pu_ix (PuD.vi (pu_var (pv 0))) (PuD.vi (pu_var (pv 2))) (fun _ _ => rfl))) (blkOk_by (N := nFSame) (sc := { kind := .function, names := [(".0", .local), ("one", .cell), ("axes", .cell), ("between", .cell), ("inner", .cell), ("second", .cell)], isGenerator := false, isCoroutine := false }) (scope := { kind := .function, names := [(".0", .local), ("other", .local), ("inner", .free), ("one", .free)], isGenerator := false, isCoroutine := false }) (own := [("other", 7)]) (by decide +kernel)) (fun _ _ _ _ _ => (tg_name (pg_name (i := 7) scFSame.nd rfl (Or.inl rfl)))) (fun _ _ _ _ _ => (tw_name (by decide))) (fun _ _ _ _ _ => (pu_if (te_cmp op_eq r2_eqS (nomark _) (PuD.vi (pu_var (pv 6))) (PuD.vi (pu_var (pv 7)))) (pu_repS (PuD.vi (pu_c pe_str (by decide +kernel))) (PuD.vi (pu_var (pv 4)))) (pu_repS (PuD.vi (pu_c pe_str (by decide +kernel))) (PuD.vi (pu_var (pv 4))))))) rfl scFSame.nd)))) (PuD.vi (pu_var (pv 3)))))) rfl scFSame.nd rfl rfl (sw_true rfl rfl rfl (by decide +kernel)))) (ss_one (sd_ret (pu_cty call_int_bits r1_intB (by rfl) B.z_int (by decide +kernel) (av_cons (PuD.vi (pu_repS (PuD.vi (pu_join (pu_c pe_str (by decide +kernel)) (pu_var (pv 5)))) (PuD.vi (pu_call hCt (hr.mono (by first | decide | omega)) (by rfl) (ar_cons (PuD.or (OwD.pu (ow_sl (PuD.vi (pu_var (pv 0))) so_none (so_some (pu_var (pv 1))))) (pu_slT (PuD.vi (pu_var (pv 0))) so_none (so_some (pu_var (pv 1))))) ar_nil))))) (av_cons (PuD.vi (pu_c pe_int rfl)) av_nil)))))))⟩
abbrev sLInit : Stmt := inClass (top 32) 0
abbrev nLInit : List Str := ["self", "columns", "steps"]
theorem scLInit : FnScope nLInit ["self", "columns", "steps"] (defScope sLInit) := ⟨rfl, rfl, rfl, by decide +kernel, rfl, by decide +kernel, by decide +kernel⟩
def FLInit (C3 : Addr) : L2.Tr.Env → Option Out := (seqF (sfldF 0 C3 "columns" (atP 1)) (sfldF 0 C3 "steps" (atP 2)))
def fLInit (C3 : Addr) (ds : List D) : Option (List Str × List D) := if ds.length + 1 = (["self", "columns", "steps"] : List Str).length then initF nLInit.length C3 (FLInit C3 ) ds else none
theorem okLInit {f : Addr} {fd : FuncData} {dvs : List V} {kws : List (Str × V)} (C3 : Addr) (F : FunD K "__init__" "Look.__init__" (defArgs sLInit) (defBody sLInit) (defScope sLInit) dvs kws f fd) (B : TxB2 mg) (clL : Cls K C3) (m1 : NoAttr K C3 "columns") (m2 : NoAttr K C3 "steps") : FnOk P w K mg base CX0 2 f fd ["self", "columns", "steps"] (spI C3 (fLInit C3 )) :=
  ok_init (n0 := "self") (N := ["columns", "steps"]) (C := C3) (Φ := FLInit C3 ) F scLInit fun cdv A outer s H E hr => ⟨_, (ss_cons (sd_fld (i := 0) clL m1 (pv 0) (pu_var (pv 1))) (ss_one (sd_fld (i := 0) clL m2 (pv 0) (pu_var (pv 2)))))⟩
abbrev sFound : Stmt := inClass (top 32) 2
abbrev nFound : List Str := ["self", "axes", "all_points", "stack", "step", "kind", "first", "second"]
theorem scFound : FnScope nFound ["self", "axes"] (defScope sFound) := ⟨rfl, rfl, rfl, by decide +kernel, rfl, by decide +kernel, by decide +kernel⟩
def FFound (K : PySem.W.Frag) (C3 : Addr) : L2.Tr.Env → Option Out := (seqF (asgF (bin2 (intI fun i j => .int (i - j)) (bin2 shlD (kD (.leaf (.int 1))) (app1 (fCount K) (consD (atP 1) nilD))) (kD (.leaf (.int 1)))) (setF 2)) (seqF (asgO 3 (lstDisp nilD)) (seqF (forF (seqsF (fldF C3 "steps" (atP 0))) (setF 4) (seqF (asgF (bin2 ixD (atP 4) (kD (.leaf (.int 0)))) (setF 5)) (ifS (asBF (bin2 (scD false) (atP 5) (kD (.leaf (.str "in"))))) (growF 3 (app1 (fFIn K) (consD (atP 1) (consD (bin2 ixD (atP 4) (kD (.leaf (.int 1)))) (consD (bin2 ixD (atP 4) (kD (.leaf (.int 2)))) nilD)))) fun xs d => xs ++ [d]) (ifS (asBF (bin2 (scD false) (atP 5) (kD (.leaf (.str "same"))))) (seqF (asgF (mapS (fun ρ => ((orE (mapS (slF slO (atP 4) (partF (kD (.leaf (.int 1)))) (fun _ => some none))) (slF slT (atP 4) (partF (kD (.leaf (.int 1)))) (fun _ => some none))) ρ).bind sortS)) (lstT 2 (consT (setF 6) (consT (setF 7) nilT)))) (growF 3 (app1 (fFSame K) (consD (atP 1) (consD (atP 6) (consD (atP 7) nilD)))) fun xs d => xs ++ [d])) (ifS (asBF (bin2 (scD false) (atP 5) (kD (.leaf (.str "any"))))) (growF 3 (atP 2) fun xs d => xs ++ [d]) (ifS (asBF (bin2 (scD false) (atP 5) (kD (.leaf (.str "not"))))) (popLF 3 (fun i j => .int (Builtin.bitXor i j)) (atP 2)) (ifS (asBF (bin2 (scD false) (atP 5) (kD (.leaf (.str "and"))))) (popBF 3 (fun i j => .int (Builtin.bitAnd i j))) (popBF 3 (fun i j => .int (Builtin.bitOr i j)))))))))) (retF (bin2 ixD (atV 3) (kD (.leaf (.int 0))))))))
def fFound (K : PySem.W.Frag) (C3 : Addr) (ds : List D) : Option D := if ds.length = (["self", "axes"] : List Str).length then runF nFound.length (FFound K C3 ) ds else none
theorem okFound {f : Addr} {fd : FuncData} (C3 : Addr) (F : Fun K "found" "Look.found" sFound f fd) (B : TxB2 mg) (clL : Cls K C3) (m1 : NoAttr K C3 "columns") (m2 : NoAttr K C3 "steps") (hCt : Fn P w K mg base "_count" 1 1 (fCount K)) (hFi : Fn P w K mg base "_found_in" 2 3 (fFIn K)) (hFs : Fn P w K mg base "_found_same" 2 3 (fFSame K)) : FnOk P w K mg base CX0 3 f fd ["self", "axes"] (spP (fFound K C3 )) :=
  ok_def (N := nFound) (Φ := FFound K C3 ) F scFound fun cdv A outer s H E hr => ⟨_, (ss_cons (sd_nm (pu_sub (PuD.vi (pu_shl (PuD.vi (pu_c pe_int rfl)) (PuD.vi (pu_call hCt (hr.mono (by first | decide | omega)) (by rfl) (ar_cons (pu_var (pv 1)) ar_nil))))) (PuD.vi (pu_c pe_int rfl))) (fun h => ps_set (i := 2) scFound.nd rfl (by first | exact Or.inl rfl | exact Or.inr rfl) h)) (ss_cons (sd_nmO (ow_lst ar_nil) (fun h => ps_set (i := 3) scFound.nd rfl (by first | exact Or.inl rfl | exact Or.inr rfl) h)) (ss_cons (sd_for PassesOwn.never rfl (it_seq (pu_fld clL m2 (PuD.vi (pu_var (pv 0))))) (tg_name (pg_name (i := 4) scFound.nd rfl (by first | exact Or.inl rfl | exact Or.inr rfl))) (ss_cons (sd_nm (pu_ix (PuD.vi (pu_var (pv 4))) (PuD.vi (pu_c pe_int rfl)) (fun _ _ => rfl)) (fun h => ps_set (i := 5) scFound.nd rfl (by first | exact Or.inl rfl | exact Or.inr rfl) h)) (ss_one (sd_if (te_cmp op_eq r2_eqS (nomark _) (PuD.vi (pu_var (pv 5))) (PuD.vi (pu_c pe_str (by decide +kernel)))) (ss_one (sd_appK (i := 3) (pu_call hFi (hr.mono (by first | decide | omega)) (by rfl) (ar_cons (pu_var (pv 1)) (ar_cons (pu_ix (PuD.vi (pu_var (pv 4))) (PuD.vi (pu_c pe_int rfl)) (fun _ _ => rfl)) (ar_cons (pu_ix (PuD.vi (pu_var (pv 4))) (PuD.vi (pu_c pe_int rfl)) (fun _ _ => rfl)) ar_nil)))) (fun h => ps_expr (pe_bm PySem.F.plainAttrs_list PySem.F.slot_list_append PySem.F.type_list_append mt_append (pv 3) (pa_cons h pa_nil))))) (ss_one (sd_if (te_cmp op_eq r2_eqS (nomark _) (PuD.vi (pu_var (pv 5))) (PuD.vi (pu_c pe_str (by decide +kernel)))) (ss_cons (sd_asg (OwD.pu (ow_sortS (hu9 hr) (by rfl) B.z_sorted (pe_bltn (v := .ty "int") (by rfl) B.z_int (by decide +kernel) rfl) (PuD.or (OwD.pu (ow_sl (PuD.vi (pu_var (pv 4))) (so_some (pu_c pe_int rfl)) so_none)) (pu_slT (PuD.vi (pu_var (pv 4))) (so_some (pu_c pe_int rfl)) so_none)))) (tg_lst rfl (tgs_cons (tg_name (pg_name (i := 6) scFound.nd rfl (by first | exact Or.inl rfl | exact Or.inr rfl))) (tgs_cons (tg_name (pg_name (i := 7) scFound.nd rfl (by first | exact Or.inl rfl | exact Or.inr rfl))) tgs_nil)))) (ss_one (sd_appK (i := 3) (pu_call hFs (hr.mono (by first | decide | omega)) (by rfl) (ar_cons (pu_var (pv 1)) (ar_cons (pu_var (pv 6)) (ar_cons (pu_var (pv 7)) ar_nil)))) (fun h => ps_expr (pe_bm PySem.F.plainAttrs_list PySem.F.slot_list_append PySem.F.type_list_append mt_append (pv 3) (pa_cons h pa_nil)))))) (ss_one (sd_if (te_cmp op_eq r2_eqS (nomark _) (PuD.vi (pu_var (pv 5))) (PuD.vi (pu_c pe_str (by decide +kernel)))) (ss_one (sd_appK (i := 3) (pu_var (pv 2)) (fun h => ps_expr (pe_bm PySem.F.plainAttrs_list PySem.F.slot_list_append PySem.F.type_list_append mt_append (pv 3) (pa_cons h pa_nil))))) (ss_one (sd_if (te_cmp op_eq r2_eqS (nomark _) (PuD.vi (pu_var (pv 5))) (PuD.vi (pu_c pe_str (by decide +kernel)))) (ss_one (sd_popL (i := 3) (fun _ _ => rfl) (pu_var (pv 2)) (fun h => ps_expr (pe_bm PySem.F.plainAttrs_list PySem.F.slot_list_append PySem.F.type_list_append mt_append (pv 3) (pa_cons (pe_op op_xor h (pe_bm0 PySem.F.plainAttrs_list PySem.F.slot_list_pop PySem.F.type_list_pop mt_pop (pv 3))) pa_nil))))) (ss_one (sd_if (te_cmp op_eq r2_eqS (nomark _) (PuD.vi (pu_var (pv 5))) (PuD.vi (pu_c pe_str (by decide +kernel)))) (ss_one (sd_popB (i := 3) (fun _ _ => rfl) (ps_expr (pe_bm PySem.F.plainAttrs_list PySem.F.slot_list_append PySem.F.type_list_append mt_append (pv 3) (pa_cons (pe_op op_and (pe_bm0 PySem.F.plainAttrs_list PySem.F.slot_list_pop PySem.F.type_list_pop mt_pop (pv 3)) (pe_bm0 PySem.F.plainAttrs_list PySem.F.slot_list_pop PySem.F.type_list_pop mt_pop (pv 3))) pa_nil))))) (ss_one (sd_popB (i := 3) (fun _ _ => rfl) (ps_expr (pe_bm PySem.F.plainAttrs_list PySem.F.slot_list_append PySem.F.type_list_append mt_append (pv 3) (pa_cons (pe_op op_or (pe_bm0 PySem.F.plainAttrs_list PySem.F.slot_list_pop PySem.F.type_list_pop mt_pop (pv 3)) (pe_bm0 PySem.F.plainAttrs_list PySem.F.slot_list_pop PySem.F.type_list_pop mt_pop (pv 3))) pa_nil))))))))))))))))) (ss_one (sd_ret (pu_ix (vi_var (pv 3)) (PuD.vi (pu_c pe_int rfl)) (fun _ _ => rfl)))))))⟩
abbrev sLCall : Stmt := inClass (top 32) 1
abbrev nLCall : List Str := ["self", "row", "number", "thing"]
theorem scLCall : FnScope nLCall ["self", "row", "number"] (defScope sLCall) := ⟨rfl, rfl, rfl, by decide +kernel, rfl, by decide +kernel, by decide +kernel⟩
def FLCall (K : PySem.W.Frag) (C3 : Addr) : L2.Tr.Env → Option Out := (retF (bin2 (scD false) (metF C3 "found" (fFound K C3) (atP 0) (consD (mapS (lcF [3] (seqsF (tupDisp (starD (atP 1) (consD (atP 2) nilD)))) (setF 3) yesF (tupDisp (consD (atP 3) nilD)))) nilD)) (kD (.leaf (.int 1)))))
def fLCall (K : PySem.W.Frag) (C3 : Addr) (ds : List D) : Option D := if ds.length = (["self", "row", "number"] : List Str).length then runF nLCall.length (FLCall K C3 ) ds else none
theorem okLCall {f : Addr} {fd : FuncData} (C3 : Addr) (F : Fun K "__call__" "Look.__call__" sLCall f fd) (B : TxB2 mg) (clL : Cls K C3) (m1 : NoAttr K C3 "columns") (m2 : NoAttr K C3 "steps") (mF : Mth P w K mg base C3 "found" 3 (fFound K C3)) : FnOk P w K mg base CX0 4 f fd ["self", "row", "number"] (spP (fLCall K C3 )) :=
  ok_def (N := nLCall) (Φ := FLCall K C3 ) F scLCall fun cdv A outer s H E hr => ⟨_, (ss_one (sd_ret (pu_cmp op_eq r2_eqS (nomark _) (PuD.vi (pu_meth mF (hr.mono (by first | decide | omega)) (pu_var (pv 0)) (ar_cons (OwD.pu (LcD.ow (lc0 [("thing", 3)] (it_seq (pu_tup (ar_star (pu_var (pv 1)) (ar_cons (pu_var (pv 2)) ar_nil)))) (blkOk_by (N := nLCall) (sc := defScope sLCall) (by decide +kernel)) (fun _ _ _ _ _ => (tg_name (pg_name (i := 3) scLCall.nd rfl (Or.inl rfl)))) (fun _ _ _ _ _ => (tw_name (by decide))) (fun _ _ _ _ _ => (pu_tup (ar_cons (pu_var (pv 3)) ar_nil)))) rfl scLCall.nd)) ar_nil))) (PuD.vi (pu_c pe_int rfl)))))⟩
end
end L2.K1

namespace L2.K1
open PySem PySem.Spec PyProof.Rows L2.Tr
section
variable {P : Program} {w : World} {K : PySem.W.Frag} {mg : Str → Option Value} {base : Heap}
abbrev sJoined : Stmt := top 36
abbrev nJoined : List Str := ["one", "other", "sign"]
theorem scJoined : FnScope nJoined ["one", "other", "sign"] (defScope sJoined) := ⟨rfl, rfl, rfl, by decide +kernel, rfl, by decide +kernel, by decide +kernel⟩
def FJoined (C C3 : Addr) (gE : List D → Option D) : L2.Tr.Env → Option Out := (seqF (ifS (asBF (bin2 (eqOD true C gE) (fldF C3 "columns" (atP 0)) (fldF C3 "columns" (atP 1)))) neverF skipF) (retF (app1 (mkD C3 (fLInit C3)) (consD (fldF C3 "columns" (atP 0)) (consD (tupDisp (starD (fldF C3 "steps" (atP 0)) (starD (fldF C3 "steps" (atP 1)) (consD (tupDisp (consD (atP 2) nilD)) nilD)))) nilD)))))
def fJoined (C C3 : Addr) (gE : List D → Option D) (ds : List D) : Option D := if ds.length = (["one", "other", "sign"] : List Str).length then runF nJoined.length (FJoined C C3 gE ) ds else none
theorem okJoined {f : Addr} {fd : FuncData} (C C3 : Addr) (gE : List D → Option D) (F : Fun K "_joined" "_joined" sJoined f fd) (B : TxB2 mg) (clL : Cls K C3) (m1 : NoAttr K C3 "columns") (m2 : NoAttr K C3 "steps") (mk : Mkr P w K mg base "Look" C3 2 (fLInit C3)) (mE : Eqr P w K mg base C 1 gE) : FnOk P w K mg base CX0 4 f fd ["one", "other", "sign"] (spP (fJoined C C3 gE )) :=
  ok_def (N := nJoined) (Φ := FJoined C C3 gE ) F scJoined fun cdv A outer s H E hr => ⟨_, (ss_cons (sd_if (te_cmp (eqr_ne mE (hr.mono (by first | decide | omega))) r2_eqO (nomark _) (PuD.vi (pu_fld clL m1 (PuD.vi (pu_var (pv 0))))) (PuD.vi (pu_fld clL m1 (PuD.vi (pu_var (pv 1)))))) (ss_one sd_never) ss_nil) (ss_one (sd_ret (pu_make mk (hr.mono (by first | decide | omega)) (by rfl) (ar_cons (pu_fld clL m1 (PuD.vi (pu_var (pv 0)))) (ar_cons (pu_tup (ar_star (pu_fld clL m2 (PuD.vi (pu_var (pv 0)))) (ar_star (pu_fld clL m2 (PuD.vi (pu_var (pv 1)))) (ar_cons (pu_tup (ar_cons (pu_var (pv 2)) ar_nil)) ar_nil)))) ar_nil))))))⟩
abbrev sLAnd : Stmt := inClass (top 32) 3
abbrev nLAnd : List Str := ["self", "other"]
theorem scLAnd : FnScope nLAnd ["self", "other"] (defScope sLAnd) := ⟨rfl, rfl, rfl, by decide +kernel, rfl, by decide +kernel, by decide +kernel⟩
def FLAnd (C C3 : Addr) (gE : List D → Option D) : L2.Tr.Env → Option Out := (retF (app1 (fJoined C C3 gE) (consD (atP 0) (consD (atP 1) (consD (kD (.leaf (.str "and"))) nilD)))))
def fLAnd (C C3 : Addr) (gE : List D → Option D) (ds : List D) : Option D := if ds.length = (["self", "other"] : List Str).length then runF nLAnd.length (FLAnd C C3 gE ) ds else none
theorem okLAnd {f : Addr} {fd : FuncData} (C C3 : Addr) (gE : List D → Option D) (F : Fun K "__and__" "Look.__and__" sLAnd f fd) (B : TxB2 mg) (hJ : Fn P w K mg base "_joined" 4 3 (fJoined C C3 gE)) : FnOk P w K mg base CX0 5 f fd ["self", "other"] (spP (fLAnd C C3 gE )) :=
  ok_def (N := nLAnd) (Φ := FLAnd C C3 gE ) F scLAnd fun cdv A outer s H E hr => ⟨_, (ss_one (sd_ret (pu_call hJ (hr.mono (by first | decide | omega)) (by rfl) (ar_cons (pu_var (pv 0)) (ar_cons (pu_var (pv 1)) (ar_cons (pu_c pe_str (by decide +kernel)) ar_nil))))))⟩
abbrev sLOr : Stmt := inClass (top 32) 4
abbrev nLOr : List Str := ["self", "other"]
theorem scLOr : FnScope nLOr ["self", "other"] (defScope sLOr) := ⟨rfl, rfl, rfl, by decide +kernel, rfl, by decide +kernel, by decide +kernel⟩
def FLOr (C C3 : Addr) (gE : List D → Option D) : L2.Tr.Env → Option Out := (retF (app1 (fJoined C C3 gE) (consD (atP 0) (consD (atP 1) (consD (kD (.leaf (.str "or"))) nilD)))))
def fLOr (C C3 : Addr) (gE : List D → Option D) (ds : List D) : Option D := if ds.length = (["self", "other"] : List Str).length then runF nLOr.length (FLOr C C3 gE ) ds else none
theorem okLOr {f : Addr} {fd : FuncData} (C C3 : Addr) (gE : List D → Option D) (F : Fun K "__or__" "Look.__or__" sLOr f fd) (B : TxB2 mg) (hJ : Fn P w K mg base "_joined" 4 3 (fJoined C C3 gE)) : FnOk P w K mg base CX0 5 f fd ["self", "other"] (spP (fLOr C C3 gE )) :=
  ok_def (N := nLOr) (Φ := FLOr C C3 gE ) F scLOr fun cdv A outer s H E hr => ⟨_, (ss_one (sd_ret (pu_call hJ (hr.mono (by first | decide | omega)) (by rfl) (ar_cons (pu_var (pv 0)) (ar_cons (pu_var (pv 1)) (ar_cons (pu_c pe_str (by decide +kernel)) ar_nil))))))⟩
abbrev sLInv : Stmt := inClass (top 32) 7
abbrev nLInv : List Str := ["self"]
theorem scLInv : FnScope nLInv ["self"] (defScope sLInv) := ⟨rfl, rfl, rfl, by decide +kernel, rfl, by decide +kernel, by decide +kernel⟩
def FLInv (C3 : Addr) : L2.Tr.Env → Option Out := (retF (app1 (mkD C3 (fLInit C3)) (consD (fldF C3 "columns" (atP 0)) (consD (tupDisp (starD (fldF C3 "steps" (atP 0)) (consD (tupDisp (consD (kD (.leaf (.str "not"))) nilD)) nilD))) nilD))))
def fLInv (C3 : Addr) (ds : List D) : Option D := if ds.length = (["self"] : List Str).length then runF nLInv.length (FLInv C3 ) ds else none
theorem okLInv {f : Addr} {fd : FuncData} (C3 : Addr) (F : Fun K "__invert__" "Look.__invert__" sLInv f fd) (B : TxB2 mg) (clL : Cls K C3) (m1 : NoAttr K C3 "columns") (m2 : NoAttr K C3 "steps") (mk : Mkr P w K mg base "Look" C3 2 (fLInit C3)) : FnOk P w K mg base CX0 4 f fd ["self"] (spP (fLInv C3 )) :=
  ok_def (N := nLInv) (Φ := FLInv C3 ) F scLInv fun cdv A outer s H E hr => ⟨_, (ss_one (sd_ret (pu_make mk (hr.mono (by first | decide | omega)) (by rfl) (ar_cons (pu_fld clL m1 (PuD.vi (pu_var (pv 0)))) (ar_cons (pu_tup (ar_star (pu_fld clL m2 (PuD.vi (pu_var (pv 0)))) (ar_cons (pu_tup (ar_cons (pu_c pe_str (by decide +kernel)) ar_nil)) ar_nil))) ar_nil)))))⟩
abbrev sLSub : Stmt := inClass (top 32) 5
abbrev nLSub : List Str := ["self", "other"]
theorem scLSub : FnScope nLSub ["self", "other"] (defScope sLSub) := ⟨rfl, rfl, rfl, by decide +kernel, rfl, by decide +kernel, by decide +kernel⟩
def FLSub (C C3 : Addr) (gE : List D → Option D) : L2.Tr.Env → Option Out := (retF (bin2 (ownBD C3 (fLAnd C C3 gE)) (atP 0) (fun ρ => ((atP 1) ρ).bind (ownUD C3 (fLInv C3)))))
def fLSub (C C3 : Addr) (gE : List D → Option D) (ds : List D) : Option D := if ds.length = (["self", "other"] : List Str).length then runF nLSub.length (FLSub C C3 gE ) ds else none
theorem okLSub {f : Addr} {fd : FuncData} (C C3 : Addr) (gE : List D → Option D) (F : Fun K "__sub__" "Look.__sub__" sLSub f fd) (B : TxB2 mg) (hAnd : BinO P w K mg base C3 "__and__" 5 (fLAnd C C3 gE)) (hInv : BinO P w K mg base C3 "__invert__" 4 (fLInv C3)) : FnOk P w K mg base CX0 6 f fd ["self", "other"] (spP (fLSub C C3 gE )) :=
  ok_def (N := nLSub) (Φ := FLSub C C3 gE ) F scLSub fun cdv A outer s H E hr => ⟨_, (ss_one (sd_ret (pu_ownB hAnd (hr.mono (by first | decide | omega)) (pu_var (pv 0)) (pu_ownU hInv (hr.mono (by first | decide | omega)) (pu_var (pv 1))))))⟩
abbrev sLXor : Stmt := inClass (top 32) 6
abbrev nLXor : List Str := ["self", "other"]
theorem scLXor : FnScope nLXor ["self", "other"] (defScope sLXor) := ⟨rfl, rfl, rfl, by decide +kernel, rfl, by decide +kernel, by decide +kernel⟩
def FLXor (C C3 : Addr) (gE : List D → Option D) : L2.Tr.Env → Option Out := (retF (bin2 (ownBD C3 (fLAnd C C3 gE)) (bin2 (ownBD C3 (fLOr C C3 gE)) (atP 0) (atP 1)) (fun ρ => ((bin2 (ownBD C3 (fLAnd C C3 gE)) (atP 0) (atP 1)) ρ).bind (ownUD C3 (fLInv C3)))))
def fLXor (C C3 : Addr) (gE : List D → Option D) (ds : List D) : Option D := if ds.length = (["self", "other"] : List Str).length then runF nLXor.length (FLXor C C3 gE ) ds else none
theorem okLXor {f : Addr} {fd : FuncData} (C C3 : Addr) (gE : List D → Option D) (F : Fun K "__xor__" "Look.__xor__" sLXor f fd) (B : TxB2 mg) (hAnd : BinO P w K mg base C3 "__and__" 5 (fLAnd C C3 gE)) (hOr : BinO P w K mg base C3 "__or__" 5 (fLOr C C3 gE)) (hInv : BinO P w K mg base C3 "__invert__" 4 (fLInv C3)) : FnOk P w K mg base CX0 6 f fd ["self", "other"] (spP (fLXor C C3 gE )) :=
  ok_def (N := nLXor) (Φ := FLXor C C3 gE ) F scLXor fun cdv A outer s H E hr => ⟨_, (ss_one (sd_ret (pu_ownB hAnd (hr.mono (by first | decide | omega)) (pu_ownB hOr (hr.mono (by first | decide | omega)) (pu_var (pv 0)) (pu_var (pv 1))) (pu_ownU hInv (hr.mono (by first | decide | omega)) (pu_ownB hAnd (hr.mono (by first | decide | omega)) (pu_var (pv 0)) (pu_var (pv 1)))))))⟩
abbrev sEvery : Stmt := top 31
abbrev nEvery : List Str := ["columns"]
theorem scEvery : FnScope nEvery ["columns"] (defScope sEvery) := ⟨rfl, rfl, rfl, by decide +kernel, rfl, by decide +kernel, by decide +kernel⟩
def FEvery (C3 : Addr) : L2.Tr.Env → Option Out := (retF (app1 (mkD C3 (fLInit C3)) (consD (atP 0) (consD (tupDisp (consD (tupDisp (consD (kD (.leaf (.str "any"))) nilD)) nilD)) nilD))))
def fEvery (C3 : Addr) (ds : List D) : Option D := if ds.length = (["columns"] : List Str).length then runF nEvery.length (FEvery C3 ) ds else none
theorem okEvery {f : Addr} {fd : FuncData} (C3 : Addr) (F : Fun K "every" "every" sEvery f fd) (B : TxB2 mg) (mk : Mkr P w K mg base "Look" C3 2 (fLInit C3)) : FnOk P w K mg base CX0 4 f fd ["columns"] (spP (fEvery C3 )) :=
  ok_def (N := nEvery) (Φ := FEvery C3 ) F scEvery fun cdv A outer s H E hr => ⟨_, (ss_one (sd_ret (pu_make mk (hr.mono (by first | decide | omega)) (by rfl) (ar_cons (pu_var (pv 0)) (ar_cons (pu_tup (ar_cons (pu_tup (ar_cons (pu_c pe_str (by decide +kernel)) ar_nil)) ar_nil)) ar_nil)))))⟩
end
end L2.K1

namespace L2.K1
open PySem PySem.Spec PyProof.Rows L2.Tr
section
variable {P : Program} {w : World} {K : PySem.W.Frag} {mg : Str → Option Value} {base : Heap}
abbrev sIsNu : Stmt := top 11
abbrev nIsNu : List Str := ["thing"]
theorem scIsNu : FnScope nIsNu ["thing"] (defScope sIsNu) := ⟨rfl, rfl, rfl, by decide +kernel, rfl, by decide +kernel, by decide +kernel⟩
def FIsNu : L2.Tr.Env → Option Out := (retF (andF (isF isInt (atP 0)) (notF (isF isBool (atP 0)))))
def fIsNu (ds : List D) : Option D := if ds.length = (["thing"] : List Str).length then runF nIsNu.length (FIsNu ) ds else none
theorem okIsNu {f : Addr} {fd : FuncData} (F : Fun K "is_number" "is_number" sIsNu f fd) (B : TxB2 mg) : FnOk P w K mg base CX0 1 f fd ["thing"] (spP (fIsNu )) :=
  ok_def (N := nIsNu) (Φ := FIsNu ) F scIsNu fun cdv A outer s H E hr => ⟨_, (ss_one (sd_ret (pu_andT (pu_isi isT_int (by rfl) B.z_isinstance (by decide +kernel) (PuD.vi (pu_var (pv 0))) (pe_bltn (v := .ty "int") (by rfl) B.z_int (by decide +kernel) rfl)) (pu_one (pu_notT (PuD.vi (pu_isi isT_bool (by rfl) B.z_isinstance (by decide +kernel) (PuD.vi (pu_var (pv 0))) (pe_bltn (v := .ty "bool") (by rfl) B.z_bool (by decide +kernel) rfl))))))))⟩
abbrev sIsW : Stmt := top 12
abbrev nIsW : List Str := ["thing", "letter"]
theorem scIsW : FnScope nIsW ["thing"] (defScope sIsW) := ⟨rfl, rfl, rfl, by decide +kernel, rfl, by decide +kernel, by decide +kernel⟩
def FIsW : L2.Tr.Env → Option Out := (seqF (ifS (orB (notB (truF (isF isStr (atP 0)))) (notB (asBF (chainF (intI fun i j => .bl (decide (i ≤ j))) (intI fun i j => .bl (decide (i ≤ j))) (kD (.leaf (.int 1))) (app1 lenA (consD (atP 0) nilD)) (kD (.leaf (.int 8))))))) (retF (kD (.leaf (.bl false)))) skipF) (retF (app1 allD (consD (mapS (lcF [1] (strsF (atP 0)) (setF 1) yesF (bin2 inSD (atP 1) (kD (.leaf (.str "abcdefghijklmnopqrstuvwxyz")))))) nilD))))
def fIsW (ds : List D) : Option D := if ds.length = (["thing"] : List Str).length then runF nIsW.length (FIsW ) ds else none
theorem okIsW {f : Addr} {fd : FuncData} (F : Fun K "is_word" "is_word" sIsW f fd) (B : TxB2 mg) {tkL0 : Tok} (G_LETTERS : mg "LETTERS" = some (.str "abcdefghijklmnopqrstuvwxyz" tkL0)) {tk80 : Tok} (G_MOST_LETTERS : mg "MOST_LETTERS" = some (.int 8 tk80)) : FnOk P w K mg base CX0 1 f fd ["thing"] (spP (fIsW )) :=
  ok_def (N := nIsW) (Φ := FIsW ) F scIsW fun cdv A outer s H E hr => ⟨_, (ss_cons (sd_if (TwD.te (tw_or (te_not (te_tru (PuD.vi (pu_isi isT_str (by rfl) B.z_isinstance (by decide +kernel) (PuD.vi (pu_var (pv 0))) (pe_bltn (v := .ty "str") (by rfl) B.z_str (by decide +kernel) rfl))) (fun _ => rfl))) (tw_or1 (te_not (te_chain op_le op_le (r2_I0 fun _ _ => rfl) (r2_I0 fun _ _ => rfl) (PuD.vi (pu_c pe_int rfl)) (PuD.vi (pu_cb (CallR.or call_len call_lenD) (R1D.or r1_len r1_lenK) (by rfl) B.z_len (by decide +kernel) (av_cons (PuD.vi (pu_var (pv 0))) av_nil))) (PuD.vi (pu_c (pe_glob (v := .int 8) (by rfl) G_MOST_LETTERS ⟨_, rfl⟩) (by decide +kernel)))))))) (ss_one (sd_ret (pu_c pe_bl rfl))) ss_nil) (ss_one (sd_ret (pu_cb (cr_all rfl) r1_all (by rfl) B.z_all (by decide +kernel) (av_cons (PuD.vi (OwD.pu (LcD.ow (lc0 [("letter", 1)] (it_str (pu_var (pv 0))) (blkOk_by (N := nIsW) (sc := defScope sIsW) (by decide +kernel)) (fun _ _ _ _ _ => (tg_name (pg_name (i := 1) scIsW.nd rfl (Or.inl rfl)))) (fun _ _ _ _ _ => (tw_name (by decide))) (fun _ _ _ _ _ => (pu_cmp op_inS r2_inS (by with_unfolding_all rfl) (PuD.vi (pu_var (pv 1))) (PuD.vi (pu_c (pe_glob (v := .str "abcdefghijklmnopqrstuvwxyz") (by rfl) G_LETTERS ⟨_, rfl⟩) (by decide +kernel)))))) rfl scIsW.nd))) av_nil)))))⟩
abbrev sIsL : Stmt := top 13
abbrev nIsL : List Str := ["thing"]
theorem scIsL : FnScope nIsL ["thing"] (defScope sIsL) := ⟨rfl, rfl, rfl, by decide +kernel, rfl, by decide +kernel, by decide +kernel⟩
def FIsL : L2.Tr.Env → Option Out := (retF (isF isSeq (atP 0)))
def fIsL (ds : List D) : Option D := if ds.length = (["thing"] : List Str).length then runF nIsL.length (FIsL ) ds else none
theorem okIsL {f : Addr} {fd : FuncData} (F : Fun K "is_list" "is_list" sIsL f fd) (B : TxB2 mg) : FnOk P w K mg base CX0 1 f fd ["thing"] (spP (fIsL )) :=
  ok_def (N := nIsL) (Φ := FIsL ) F scIsL fun cdv A outer s H E hr => ⟨_, (ss_one (sd_ret (pu_isiT isTs_seq (by rfl) B.z_isinstance (by decide +kernel) (PuD.vi (pu_var (pv 0))) (TyArgs.cons (pe_bltn (v := .ty "list") (by rfl) B.z_list (by decide +kernel) rfl) (TyArgs.cons (pe_bltn (v := .ty "tuple") (by rfl) B.z_tuple (by decide +kernel) rfl) TyArgs.nil (by rfl)) (by rfl)) (by decide))))⟩
abbrev sIsN : Stmt := top 18
abbrev nIsN : List Str := ["thing"]
theorem scIsN : FnScope nIsN ["thing"] (defScope sIsN) := ⟨rfl, rfl, rfl, by decide +kernel, rfl, by decide +kernel, by decide +kernel⟩
def FIsN : L2.Tr.Env → Option Out := (retF (andF (app1 fIsW (consD (atP 0) nilD)) (bin2 (scD true) (atP 0) (kD (.leaf (.str "number"))))))
def fIsN (ds : List D) : Option D := if ds.length = (["thing"] : List Str).length then runF nIsN.length (FIsN ) ds else none
theorem okIsN {f : Addr} {fd : FuncData} (F : Fun K "_is_name" "_is_name" sIsN f fd) (B : TxB2 mg) (hW : Fn P w K mg base "is_word" 1 1 fIsW) : FnOk P w K mg base CX0 2 f fd ["thing"] (spP (fIsN )) :=
  ok_def (N := nIsN) (Φ := FIsN ) F scIsN fun cdv A outer s H E hr => ⟨_, (ss_one (sd_ret (pu_andT (pu_call hW (hr.mono (by first | decide | omega)) (by rfl) (ar_cons (pu_var (pv 0)) ar_nil)) (pu_one (pu_cmp op_ne r2_neS (nomark _) (PuD.vi (pu_var (pv 0))) (PuD.vi (pu_c pe_str (by decide +kernel))))))))⟩
abbrev sAre : Stmt := top 19
abbrev nAre : List Str := ["thing", "value"]
theorem scAre : FnScope nAre ["thing"] (defScope sAre) := ⟨rfl, rfl, rfl, by decide +kernel, rfl, by decide +kernel, by decide +kernel⟩
def FAre : L2.Tr.Env → Option Out := (seqF (ifS (orB (notB (truF (app1 fIsL (consD (atP 0) nilD)))) (notB (asBF (chainF (intI fun i j => .bl (decide (i ≤ j))) (intI fun i j => .bl (decide (i ≤ j))) (kD (.leaf (.int 1))) (app1 lenA (consD (atP 0) nilD)) (kD (.leaf (.int 3))))))) (retF (kD (.leaf (.bl false)))) skipF) (retF (andF (app1 allD (consD (mapS (lcF [1] (seqsF (atP 0)) (setF 1) yesF (app1 fIsW (consD (atP 1) nilD)))) nilD)) (bin2 (scD false) (lenSF (atP 0)) (app1 lenA (consD (atP 0) nilD))))))
def fAre (ds : List D) : Option D := if ds.length = (["thing"] : List Str).length then runF nAre.length (FAre ) ds else none
theorem okAre {f : Addr} {fd : FuncData} (F : Fun K "_are_values" "_are_values" sAre f fd) (B : TxB2 mg) {tkV0 : Tok} (G_MOST_VALUES : mg "MOST_VALUES" = some (.int 3 tkV0)) (hW : Fn P w K mg base "is_word" 1 1 fIsW) (hL : Fn P w K mg base "is_list" 1 1 fIsL) : FnOk P w K mg base CX0 2 f fd ["thing"] (spP (fAre )) :=
  ok_def (N := nAre) (Φ := FAre ) F scAre fun cdv A outer s H E hr => ⟨_, (ss_cons (sd_if (TwD.te (tw_or (te_not (te_tru (PuD.vi (pu_call hL (hr.mono (by first | decide | omega)) (by rfl) (ar_cons (pu_var (pv 0)) ar_nil))) (fun _ => rfl))) (tw_or1 (te_not (te_chain op_le op_le (r2_I0 fun _ _ => rfl) (r2_I0 fun _ _ => rfl) (PuD.vi (pu_c pe_int rfl)) (PuD.vi (pu_cb (CallR.or call_len call_lenD) (R1D.or r1_len r1_lenK) (by rfl) B.z_len (by decide +kernel) (av_cons (PuD.vi (pu_var (pv 0))) av_nil))) (PuD.vi (pu_c (pe_glob (v := .int 3) (by rfl) G_MOST_VALUES ⟨_, rfl⟩) (by decide +kernel)))))))) (ss_one (sd_ret (pu_c pe_bl rfl))) ss_nil) (ss_one (sd_ret (pu_andT (pu_cb (cr_all rfl) r1_all (by rfl) B.z_all (by decide +kernel) (av_cons (PuD.vi (OwD.pu (LcD.ow (lc0 [("value", 1)] (it_seq (pu_var (pv 0))) (blkOk_by (N := nAre) (sc := defScope sAre) (by decide +kernel)) (fun _ _ _ _ _ => (tg_name (pg_name (i := 1) scAre.nd rfl (Or.inl rfl)))) (fun _ _ _ _ _ => (tw_name (by decide))) (fun _ _ _ _ _ => (pu_call hW (hr.mono (by first | decide | omega)) (by rfl) (ar_cons (pu_var (pv 1)) ar_nil)))) rfl scAre.nd))) av_nil)) (pu_one (pu_cmp op_eq r2_eqS (nomark _) (PuD.vi (pu_lenS rfl (by rfl) B.z_len (by rfl) B.z_set (PuD.vi (pu_var (pv 0))))) (PuD.vi (pu_cb (CallR.or call_len call_lenD) (R1D.or r1_len r1_lenK) (by rfl) B.z_len (by decide +kernel) (av_cons (PuD.vi (pu_var (pv 0))) av_nil)))))))))⟩
abbrev sTold : Stmt := top 21
abbrev nTold : List Str := ["thing"]
theorem scTold : FnScope nTold ["thing"] (defScope sTold) := ⟨rfl, rfl, rfl, by decide +kernel, rfl, by decide +kernel, by decide +kernel⟩
def FTold : L2.Tr.Env → Option Out := (retF (andF (app1 fIsL (consD (atP 0) nilD)) (andF (bin2 (scD false) (app1 lenA (consD (atP 0) nilD)) (kD (.leaf (.int 2)))) (andF (app1 fIsN (consD (bin2 ixD (atP 0) (kD (.leaf (.int 0)))) nilD)) (app1 fAre (consD (bin2 ixD (atP 0) (kD (.leaf (.int 1)))) nilD))))))
def fTold (ds : List D) : Option D := if ds.length = (["thing"] : List Str).length then runF nTold.length (FTold ) ds else none
theorem okTold {f : Addr} {fd : FuncData} (F : Fun K "_is_told" "_is_told" sTold f fd) (B : TxB2 mg) (hL : Fn P w K mg base "is_list" 1 1 fIsL) (hN : Fn P w K mg base "_is_name" 2 1 fIsN) (hA : Fn P w K mg base "are_values_columns" 2 1 fAre) : FnOk P w K mg base CX0 3 f fd ["thing"] (spP (fTold )) :=
  ok_def (N := nTold) (Φ := FTold ) F scTold fun cdv A outer s H E hr => ⟨_, (ss_one (sd_ret (pu_andT (pu_call hL (hr.mono (by first | decide | omega)) (by rfl) (ar_cons (pu_var (pv 0)) ar_nil)) (pu_andT (pu_cmp op_eq r2_eqS (nomark _) (PuD.vi (pu_cb (CallR.or call_len call_lenD) (R1D.or r1_len r1_lenK) (by rfl) B.z_len (by decide +kernel) (av_cons (PuD.vi (pu_var (pv 0))) av_nil))) (PuD.vi (pu_c pe_int rfl))) (pu_andT (pu_call hN (hr.mono (by first | decide | omega)) (by rfl) (ar_cons (pu_ix (PuD.vi (pu_var (pv 0))) (PuD.vi (pu_c pe_int rfl)) (fun _ _ => rfl)) ar_nil)) (pu_one (pu_call hA (hr.mono (by first | decide | omega)) (by rfl) (ar_cons (pu_ix (PuD.vi (pu_var (pv 0))) (PuD.vi (pu_c pe_int rfl)) (fun _ _ => rfl)) ar_nil))))))))⟩
abbrev sCan : Stmt := top 22
abbrev nCan : List Str := ["thing", "values"]
theorem scCan : FnScope nCan ["thing", "values"] (defScope sCan) := ⟨rfl, rfl, rfl, by decide +kernel, rfl, by decide +kernel, by decide +kernel⟩
def FCan : L2.Tr.Env → Option Out := (retF (andF (app1 fIsW (consD (atP 0) nilD)) (orF (bin2 (isN false) (atP 1) (kD (.leaf .non))) (bin2 (inD false) (atP 0) (atP 1)))))
def fCan (ds : List D) : Option D := if ds.length = (["thing", "values"] : List Str).length then runF nCan.length (FCan ) ds else none
theorem okCan {f : Addr} {fd : FuncData} (F : Fun K "can_stand" "can_stand" sCan f fd) (B : TxB2 mg) (hW : Fn P w K mg base "is_word" 1 1 fIsW) : FnOk P w K mg base CX0 2 f fd ["thing", "values"] (spP (fCan )) :=
  ok_def (N := nCan) (Φ := FCan ) F scCan fun cdv A outer s H E hr => ⟨_, (ss_one (sd_ret (pu_andT (pu_call hW (hr.mono (by first | decide | omega)) (by rfl) (ar_cons (pu_var (pv 0)) ar_nil)) (pu_one (pu_orT (pu_cmp op_isN r2_isN (nomark _) (PuD.vi (pu_var (pv 1))) (PuD.vi (pu_c pe_non rfl))) (pu_one (pu_cmp op_in_seq r2_in (by with_unfolding_all rfl) (PuD.vi (pu_var (pv 0))) (PuD.vi (pu_var (pv 1))))))))))⟩
abbrev sInit : Stmt := inClass (top 23) 0
abbrev nInit : List Str := ["self", "told", "free", "values", "index", "thing", "place", "name"]
theorem scInit : FnScope nInit ["self", "told", "free"] (defScope sInit) := ⟨rfl, rfl, rfl, by decide +kernel, rfl, by decide +kernel, by decide +kernel⟩
def FInit (C : Addr) : L2.Tr.Env → Option Out := (seqF (dnewF 3) (seqF (forF (enumF (atP 1)) (tupT 2 (consT (setF 4) (consT (setF 5) nilT))) (seqF (ifS (orB (asBF (bin2 (scD false) (atP 4) (kD (.leaf (.int 3))))) (orB (notB (truF (app1 fTold (consD (atP 5) nilD)))) (bin2 (dinB false) (bin2 ixD (atP 5) (kD (.leaf (.int 0)))) (atV 3)))) neverF skipF) (dputF 3 (bin2 ixD (atP 5) (kD (.leaf (.int 0)))) (app1 tupD (consD (bin2 ixD (atP 5) (kD (.leaf (.int 1)))) nilD))))) (seqF (forF (enumF (atP 2)) (tupT 2 (consT (setF 6) (consT (setF 7) nilT))) (seqF (asgF (bin2 addD (app1 lenA (consD (atP 1) nilD)) (atP 6)) (setF 4)) (seqF (ifS (orB (asBF (bin2 (scD false) (atP 4) (kD (.leaf (.int 3))))) (orB (asBF (bin2 (scD false) (atP 6) (kD (.leaf (.int 2))))) (orB (notB (truF (app1 fIsN (consD (atP 7) nilD)))) (bin2 (dinB false) (atP 7) (atV 3))))) neverF skipF) (dputF 3 (atP 7) (kD (.leaf .non)))))) (seqF (ifS (notB (truF (atV 3))) neverF skipF) (frzF 3 (sfldF 0 C "_values" (atP 3)))))))
def fInit (C : Addr) (ds : List D) : Option (List Str × List D) := if ds.length + 1 = (["self", "told", "free"] : List Str).length then initF nInit.length C (FInit C ) ds else none
theorem okInit {f : Addr} {fd : FuncData} {dvs : List V} {kws : List (Str × V)} (C : Addr) (F : FunD K "__init__" "Columns.__init__" (defArgs sInit) (defBody sInit) (defScope sInit) dvs kws f fd) (B : TxB2 mg) (cl : Cls K C) (na : NoAttr K C "_values") {tkC0 : Tok} (G_MOST_COLUMNS : mg "MOST_COLUMNS" = some (.int 3 tkC0)) {tkF0 : Tok} (G_MOST_FREE : mg "MOST_FREE" = some (.int 2 tkF0)) (hT : Fn P w K mg base "_is_told" 3 1 fTold) (hN : Fn P w K mg base "_is_name" 2 1 fIsN) : FnOk P w K mg base CX0 4 f fd ["self", "told", "free"] (spI C (fInit C )) :=
  ok_init (n0 := "self") (N := ["told", "free", "values", "index", "thing", "place", "name"]) (C := C) (Φ := FInit C ) F scInit fun cdv A outer s H E hr => ⟨_, (ss_cons (sd_dnew (i := 3) (fun h => ps_set (i := 3) scInit.nd rfl (by first | exact Or.inl rfl | exact Or.inr rfl) h)) (ss_cons (sd_for PassesOwn.never rfl (it_enum (pu_var (pv 1)) (by rfl) B.z_enumerate) (tg_tup rfl (tgs_cons (tg_name (pg_name (i := 4) scInit.nd rfl (by first | exact Or.inl rfl | exact Or.inr rfl))) (tgs_cons (tg_name (pg_name (i := 5) scInit.nd rfl (by first | exact Or.inl rfl | exact Or.inr rfl))) tgs_nil))) (ss_cons (sd_if (TwD.te (tw_or (te_cmp op_eq r2_eqS (nomark _) (PuD.vi (pu_var (pv 4))) (PuD.vi (pu_c (pe_glob (v := .int 3) (by rfl) G_MOST_COLUMNS ⟨_, rfl⟩) (by decide +kernel)))) (tw_or (te_not (te_tru (PuD.vi (pu_call hT (hr.mono (by first | decide | omega)) (by rfl) (ar_cons (pu_var (pv 5)) ar_nil))) (fun _ => rfl))) (tw_or1 (te_din (hu_of hr) (PuD.vi (pu_ix (PuD.vi (pu_var (pv 5))) (PuD.vi (pu_c pe_int rfl)) (fun _ _ => rfl))) (vi_var (pv 3))))))) (ss_one sd_never) ss_nil) (ss_one (sd_dput (i := 3) (hu_of hr) (pv 3) (pu_ix (PuD.vi (pu_var (pv 5))) (PuD.vi (pu_c pe_int rfl)) (fun _ _ => rfl)) (pu_cty call_tuple_of r1_tup (by rfl) B.z_tuple (by decide +kernel) (av_cons (PuD.vi (pu_ix (PuD.vi (pu_var (pv 5))) (PuD.vi (pu_c pe_int rfl)) (fun _ _ => rfl))) av_nil)))))) (ss_cons (sd_for PassesOwn.never rfl (it_enum (pu_var (pv 2)) (by rfl) B.z_enumerate) (tg_tup rfl (tgs_cons (tg_name (pg_name (i := 6) scInit.nd rfl (by first | exact Or.inl rfl | exact Or.inr rfl))) (tgs_cons (tg_name (pg_name (i := 7) scInit.nd rfl (by first | exact Or.inl rfl | exact Or.inr rfl))) tgs_nil))) (ss_cons (sd_nm (pu_add (PuD.vi (pu_cb (CallR.or call_len call_lenD) (R1D.or r1_len r1_lenK) (by rfl) B.z_len (by decide +kernel) (av_cons (PuD.vi (pu_var (pv 1))) av_nil))) (PuD.vi (pu_var (pv 6)))) (fun h => ps_set (i := 4) scInit.nd rfl (by first | exact Or.inl rfl | exact Or.inr rfl) h)) (ss_cons (sd_if (TwD.te (tw_or (te_cmp op_eq r2_eqS (nomark _) (PuD.vi (pu_var (pv 4))) (PuD.vi (pu_c (pe_glob (v := .int 3) (by rfl) G_MOST_COLUMNS ⟨_, rfl⟩) (by decide +kernel)))) (tw_or (te_cmp op_eq r2_eqS (nomark _) (PuD.vi (pu_var (pv 6))) (PuD.vi (pu_c (pe_glob (v := .int 2) (by rfl) G_MOST_FREE ⟨_, rfl⟩) (by decide +kernel)))) (tw_or (te_not (te_tru (PuD.vi (pu_call hN (hr.mono (by first | decide | omega)) (by rfl) (ar_cons (pu_var (pv 7)) ar_nil))) (fun _ => rfl))) (tw_or1 (te_din (hu_of hr) (PuD.vi (pu_var (pv 7))) (vi_var (pv 3)))))))) (ss_one sd_never) ss_nil) (ss_one (sd_dput (i := 3) (hu_of hr) (pv 3) (pu_var (pv 7)) (pu_c pe_non rfl)))))) (ss_cons (sd_if (te_not (te_tru (vi_var (pv 3)) (fun _ => rfl))) (ss_one sd_never) ss_nil) (ss_one (sd_frz 3 (sd_fld (i := 0) cl na (pv 0) (pu_var (pv 3)))))))))⟩
abbrev sNames : Stmt := inClass (top 23) 1
abbrev nNames : List Str := ["self"]
theorem scNames : FnScope nNames ["self"] (defScope sNames) := ⟨rfl, rfl, rfl, by decide +kernel, rfl, by decide +kernel, by decide +kernel⟩
def FNames (C : Addr) : L2.Tr.Env → Option (List D) := (app1 lstA (consD (fldF C "_values" (atP 0)) nilD))
def fNames (C : Addr) (ds : List D) : Option (List D) := if ds.length = (["self"] : List Str).length then FNames C (env0 nNames.length ds) else none
theorem okNames {f : Addr} {fd : FuncData} (C : Addr) (F : Fun K "names" "Columns.names" sNames f fd) (B : TxB2 mg) (cl : Cls K C) (na : NoAttr K C "_values") : FnOk P w K mg base CX0 1 f fd ["self"] (spO (fNames C )) :=
  ok_retO (N := nNames) (ψ := FNames C ) F scNames rfl fun cdv A outer s H E hr => ⟨_, (ow_cty (CallR.or call_list_of (call_list_dK rfl)) (R1O.or r1_lst r1_lstK) (by rfl) B.z_list (by decide +kernel) (av_cons (PuD.vi (pu_fld cl na (PuD.vi (pu_var (pv 0))))) av_nil))⟩
abbrev sLen : Stmt := inClass (top 23) 4
abbrev nLen : List Str := ["self"]
theorem scLen : FnScope nLen ["self"] (defScope sLen) := ⟨rfl, rfl, rfl, by decide +kernel, rfl, by decide +kernel, by decide +kernel⟩
def FLen (C : Addr) : L2.Tr.Env → Option Out := (retF (app1 lenA (consD (fldF C "_values" (atP 0)) nilD)))
def fLen (C : Addr) (ds : List D) : Option D := if ds.length = (["self"] : List Str).length then runF nLen.length (FLen C ) ds else none
theorem okLen {f : Addr} {fd : FuncData} (C : Addr) (F : Fun K "__len__" "Columns.__len__" sLen f fd) (B : TxB2 mg) (cl : Cls K C) (na : NoAttr K C "_values") : FnOk P w K mg base CX0 1 f fd ["self"] (spP (fLen C )) :=
  ok_def (N := nLen) (Φ := FLen C ) F scLen fun cdv A outer s H E hr => ⟨_, (ss_one (sd_ret (pu_cb (CallR.or call_len call_lenD) (R1D.or r1_len r1_lenK) (by rfl) B.z_len (by decide +kernel) (av_cons (PuD.vi (pu_fld cl na (PuD.vi (pu_var (pv 0))))) av_nil))))⟩
abbrev sIn : Stmt := inClass (top 23) 5
abbrev nIn : List Str := ["self", "thing"]
theorem scIn : FnScope nIn ["self", "thing"] (defScope sIn) := ⟨rfl, rfl, rfl, by decide +kernel, rfl, by decide +kernel, by decide +kernel⟩
def FIn (C : Addr) : L2.Tr.Env → Option Out := (retF (andF (isF isStr (atP 1)) (dinV (atP 1) (fldF C "_values" (atP 0)))))
def fIn (C : Addr) (ds : List D) : Option D := if ds.length = (["self", "thing"] : List Str).length then runF nIn.length (FIn C ) ds else none
theorem okIn {f : Addr} {fd : FuncData} (C : Addr) (F : Fun K "__contains__" "Columns.__contains__" sIn f fd) (B : TxB2 mg) (cl : Cls K C) (na : NoAttr K C "_values") : FnOk P w K mg base CX0 1 f fd ["self", "thing"] (spP (fIn C )) :=
  ok_def (N := nIn) (Φ := FIn C ) F scIn fun cdv A outer s H E hr => ⟨_, (ss_one (sd_ret (pu_andT (pu_isi isT_str (by rfl) B.z_isinstance (by decide +kernel) (PuD.vi (pu_var (pv 1))) (pe_bltn (v := .ty "str") (by rfl) B.z_str (by decide +kernel) rfl)) (pu_one (pu_din (hu_of hr) (PuD.vi (pu_var (pv 1))) (PuD.vi (pu_fld cl na (PuD.vi (pu_var (pv 0))))))))))⟩
abbrev sTV : Stmt := inClass (top 23) 2
abbrev nTV : List Str := ["self", "name"]
theorem scTV : FnScope nTV ["self", "name"] (defScope sTV) := ⟨rfl, rfl, rfl, by decide +kernel, rfl, by decide +kernel, by decide +kernel⟩
def FTV (C : Addr) : L2.Tr.Env → Option Out := (seqF (ifS (asBF (bin2 (conD true C (fIn C)) (atP 1) (atP 0))) neverF skipF) (retF (bin2 dgD (fldF C "_values" (atP 0)) (atP 1))))
def fTV (C : Addr) (ds : List D) : Option D := if ds.length = (["self", "name"] : List Str).length then runF nTV.length (FTV C ) ds else none
theorem okTV {f : Addr} {fd : FuncData} (C : Addr) (F : Fun K "told_values" "Columns.told_values" sTV f fd) (B : TxB2 mg) (cl : Cls K C) (na : NoAttr K C "_values") (hI : L2.Tr.Con P w K mg base C 1 (fIn C)) : FnOk P w K mg base CX0 2 f fd ["self", "name"] (spP (fTV C )) :=
  ok_def (N := nTV) (Φ := FTV C ) F scTV fun cdv A outer s H E hr => ⟨_, (ss_cons (sd_if (te_cmp (con_notIn hI (hr.mono (by first | decide | omega))) r2_con (by with_unfolding_all rfl) (PuD.vi (pu_var (pv 1))) (PuD.vi (pu_var (pv 0)))) (ss_one sd_never) ss_nil) (ss_one (sd_ret (pu_dg (hu_of hr) (PuD.vi (pu_fld cl na (PuD.vi (pu_var (pv 0))))) (PuD.vi (pu_var (pv 1))) (fun _ _ => rfl)))))⟩
abbrev sEq : Stmt := inClass (top 23) 6
abbrev nEq : List Str := ["self", "other"]
theorem scEq : FnScope nEq ["self", "other"] (defScope sEq) := ⟨rfl, rfl, rfl, by decide +kernel, rfl, by decide +kernel, by decide +kernel⟩
def FEq (C : Addr) : L2.Tr.Env → Option Out := (retF (andF (isF (isCls C) (atP 1)) (bin2 (eqP false) (mapS (itemsO (fldF C "_values" (atP 0)))) (mapS (itemsO (fldF C "_values" (atP 1)))))))
def fEq (C : Addr) (ds : List D) : Option D := if ds.length = (["self", "other"] : List Str).length then runF nEq.length (FEq C ) ds else none
theorem okEq {f : Addr} {fd : FuncData} (C : Addr) (F : Fun K "__eq__" "Columns.__eq__" sEq f fd) (B : TxB2 mg) (cl : Cls K C) (na : NoAttr K C "_values") (oc : OwnC K C) (G_Columns : mg "Columns" = some (.ref C)) : FnOk P w K mg base CX0 1 f fd ["self", "other"] (spP (fEq C )) :=
  ok_def (N := nEq) (Φ := FEq C ) F scEq fun cdv A outer s H E hr => ⟨_, (ss_one (sd_ret (pu_andT (pu_isiC (isT_cls oc) (by rfl) B.z_isinstance (by decide +kernel) (PuD.vi (pu_var (pv 1))) (pe_glob (by rfl) G_Columns rfl)) (pu_one (pu_cmp (op_eqD (hr.units)) r2_eqD (nomark _) (PuD.vi (OwD.pu (ow_items rfl (PuD.vi (pu_fld cl na (PuD.vi (pu_var (pv 0))))) (by rfl) B.z_list (by decide +kernel)))) (PuD.vi (OwD.pu (ow_items rfl (PuD.vi (pu_fld cl na (PuD.vi (pu_var (pv 1))))) (by rfl) B.z_list (by decide +kernel)))))))))⟩
abbrev sANum : Stmt := top 35
abbrev nANum : List Str := ["things", "thing"]
theorem scANum : FnScope nANum ["things"] (defScope sANum) := ⟨rfl, rfl, rfl, by decide +kernel, rfl, by decide +kernel, by decide +kernel⟩
def FANum : L2.Tr.Env → Option Out := (seqF (ifS (orB (notB (truF (app1 fIsL (consD (atP 0) nilD)))) (asBF (bin2 (scD false) (app1 lenA (consD (atP 0) nilD)) (kD (.leaf (.int 0)))))) (retF (kD (.leaf (.bl false)))) skipF) (retF (app1 allD (consD (mapS (lcF [1] (seqsF (atP 0)) (setF 1) yesF (andF (app1 fIsNu (consD (atP 1) nilD)) (chainF (intI fun i j => .bl (decide (i ≤ j))) (intI fun i j => .bl (decide (i ≤ j))) (kD (.leaf (.int 1))) (atP 1) (kD (.leaf (.int 4))))))) nilD))))
def fANum (ds : List D) : Option D := if ds.length = (["things"] : List Str).length then runF nANum.length (FANum ) ds else none
theorem okANum {f : Addr} {fd : FuncData} (F : Fun K "_are_numbers" "_are_numbers" sANum f fd) (B : TxB2 mg) {tkG0 : Tok} (G_GREATEST_NUMBER : mg "GREATEST_NUMBER" = some (.int 4 tkG0)) (hL : Fn P w K mg base "is_list" 1 1 fIsL) (hNu : Fn P w K mg base "is_number" 1 1 fIsNu) : FnOk P w K mg base CX0 2 f fd ["things"] (spP (fANum )) :=
  ok_def (N := nANum) (Φ := FANum ) F scANum fun cdv A outer s H E hr => ⟨_, (ss_cons (sd_if (TwD.te (tw_or (te_not (te_tru (PuD.vi (pu_call hL (hr.mono (by first | decide | omega)) (by rfl) (ar_cons (pu_var (pv 0)) ar_nil))) (fun _ => rfl))) (tw_or1 (te_cmp op_eq r2_eqS (nomark _) (PuD.vi (pu_cb (CallR.or call_len call_lenD) (R1D.or r1_len r1_lenK) (by rfl) B.z_len (by decide +kernel) (av_cons (PuD.vi (pu_var (pv 0))) av_nil))) (PuD.vi (pu_c pe_int rfl)))))) (ss_one (sd_ret (pu_c pe_bl rfl))) ss_nil) (ss_one (sd_ret (pu_cb (cr_all rfl) r1_all (by rfl) B.z_all (by decide +kernel) (av_cons (PuD.vi (OwD.pu (LcD.ow (lc0 [("thing", 1)] (it_seq (pu_var (pv 0))) (blkOk_by (N := nANum) (sc := defScope sANum) (by decide +kernel)) (fun _ _ _ _ _ => (tg_name (pg_name (i := 1) scANum.nd rfl (Or.inl rfl)))) (fun _ _ _ _ _ => (tw_name (by decide))) (fun _ _ _ _ _ => (pu_andT (pu_call hNu (hr.mono (by first | decide | omega)) (by rfl) (ar_cons (pu_var (pv 1)) ar_nil)) (pu_one (pu_chain op_le op_le (r2_I0 fun _ _ => rfl) (r2_I0 fun _ _ => rfl) (PuD.vi (pu_c pe_int rfl)) (PuD.vi (pu_var (pv 1))) (PuD.vi (pu_c (pe_glob (v := .int 4) (by rfl) G_GREATEST_NUMBER ⟨_, rfl⟩) (by decide +kernel)))))))) rfl scANum.nd))) av_nil)))))⟩
abbrev sAVal : Stmt := top 33
abbrev nAVal : List Str := ["things", "told", "thing"]
theorem scAVal : FnScope nAVal ["things", "told"] (defScope sAVal) := ⟨rfl, rfl, rfl, by decide +kernel, rfl, by decide +kernel, by decide +kernel⟩
def FAVal : L2.Tr.Env → Option Out := (seqF (ifS (orB (notB (truF (app1 fIsL (consD (atP 0) nilD)))) (asBF (bin2 (scD false) (app1 lenA (consD (atP 0) nilD)) (kD (.leaf (.int 0)))))) (retF (kD (.leaf (.bl false)))) skipF) (retF (andF (app1 allD (consD (mapS (lcF [2] (seqsF (atP 0)) (setF 2) yesF (app1 fCan (consD (atP 2) (consD (atP 1) nilD))))) nilD)) (bin2 (scD false) (lenSF (atP 0)) (app1 lenA (consD (atP 0) nilD))))))
def fAVal (ds : List D) : Option D := if ds.length = (["things", "told"] : List Str).length then runF nAVal.length (FAVal ) ds else none
theorem okAVal {f : Addr} {fd : FuncData} (F : Fun K "_are_values" "_are_values" sAVal f fd) (B : TxB2 mg) (hL : Fn P w K mg base "is_list" 1 1 fIsL) (hC : Fn P w K mg base "can_stand" 2 2 fCan) : FnOk P w K mg base CX0 3 f fd ["things", "told"] (spP (fAVal )) :=
  ok_def (N := nAVal) (Φ := FAVal ) F scAVal fun cdv A outer s H E hr => ⟨_, (ss_cons (sd_if (TwD.te (tw_or (te_not (te_tru (PuD.vi (pu_call hL (hr.mono (by first | decide | omega)) (by rfl) (ar_cons (pu_var (pv 0)) ar_nil))) (fun _ => rfl))) (tw_or1 (te_cmp op_eq r2_eqS (nomark _) (PuD.vi (pu_cb (CallR.or call_len call_lenD) (R1D.or r1_len r1_lenK) (by rfl) B.z_len (by decide +kernel) (av_cons (PuD.vi (pu_var (pv 0))) av_nil))) (PuD.vi (pu_c pe_int rfl)))))) (ss_one (sd_ret (pu_c pe_bl rfl))) ss_nil) (ss_one (sd_ret (pu_andT (pu_cb (cr_all rfl) r1_all (by rfl) B.z_all (by decide +kernel) (av_cons (PuD.vi (OwD.pu (LcD.ow (lc0 [("thing", 2)] (it_seq (pu_var (pv 0))) (blkOk_by (N := nAVal) (sc := defScope sAVal) (by decide +kernel)) (fun _ _ _ _ _ => (tg_name (pg_name (i := 2) scAVal.nd rfl (Or.inl rfl)))) (fun _ _ _ _ _ => (tw_name (by decide))) (fun _ _ _ _ _ => (pu_call hC (hr.mono (by first | decide | omega)) (by rfl) (ar_cons (pu_var (pv 2)) (ar_cons (pu_var (pv 1)) ar_nil))))) rfl scAVal.nd))) av_nil)) (pu_one (pu_cmp op_eq r2_eqS (nomark _) (PuD.vi (pu_lenS rfl (by rfl) B.z_len (by rfl) B.z_set (PuD.vi (pu_var (pv 0))))) (PuD.vi (pu_cb (CallR.or call_len call_lenD) (R1D.or r1_len r1_lenK) (by rfl) B.z_len (by decide +kernel) (av_cons (PuD.vi (pu_var (pv 0))) av_nil)))))))))⟩
abbrev sNumb : Stmt := top 30
abbrev nNumb : List Str := ["columns", "numbers"]
theorem scNumb : FnScope nNumb ["columns", "numbers"] (defScope sNumb) := ⟨rfl, rfl, rfl, by decide +kernel, rfl, by decide +kernel, by decide +kernel⟩
def FNumb (C C3 : Addr) : L2.Tr.Env → Option Out := (seqF (ifS (notB (truF (app1 fANum (consD (atP 1) nilD)))) neverF skipF) (retF (app1 (mkD C3 (fLInit C3)) (consD (atP 0) (consD (tupDisp (consD (tupDisp (consD (kD (.leaf (.str "in"))) (consD (app1 (lenOD C (fLen C)) (consD (atP 0) nilD)) (consD (app1 tupD (consD (atP 1) nilD)) nilD)))) nilD)) nilD)))))
def fNumb (C C3 : Addr) (ds : List D) : Option D := if ds.length = (["columns", "numbers"] : List Str).length then runF nNumb.length (FNumb C C3 ) ds else none
theorem okNumb {f : Addr} {fd : FuncData} (C C3 : Addr) (F : Fun K "numbered" "numbered" sNumb f fd) (B : TxB2 mg) (mk : Mkr P w K mg base "Look" C3 2 (fLInit C3)) (mL : Len P w K mg base C 1 (fLen C)) (hAN : Fn P w K mg base "_are_numbers" 2 1 fANum) : FnOk P w K mg base CX0 4 f fd ["columns", "numbers"] (spP (fNumb C C3 )) :=
  ok_def (N := nNumb) (Φ := FNumb C C3 ) F scNumb fun cdv A outer s H E hr => ⟨_, (ss_cons (sd_if (te_not (te_tru (PuD.vi (pu_call hAN (hr.mono (by first | decide | omega)) (by rfl) (ar_cons (pu_var (pv 1)) ar_nil))) (fun _ => rfl))) (ss_one sd_never) ss_nil) (ss_one (sd_ret (pu_make mk (hr.mono (by first | decide | omega)) (by rfl) (ar_cons (pu_var (pv 0)) (ar_cons (pu_tup (ar_cons (pu_tup (ar_cons (pu_c pe_str (by decide +kernel)) (ar_cons (pu_cb (len_cr mL (hr.mono (by first | decide | omega))) r1_lenO (by rfl) B.z_len (by decide +kernel) (av_cons (PuD.vi (pu_var (pv 0))) av_nil)) (ar_cons (pu_cty call_tuple_of r1_tup (by rfl) B.z_tuple (by decide +kernel) (av_cons (PuD.vi (pu_var (pv 1))) av_nil)) ar_nil)))) ar_nil)) ar_nil))))))⟩
abbrev sHas : Stmt := top 28
abbrev nHas : List Str := ["columns", "name", "values", "told"]
theorem scHas : FnScope nHas ["columns", "name", "values"] (defScope sHas) := ⟨rfl, rfl, rfl, by decide +kernel, rfl, by decide +kernel, by decide +kernel⟩
def FHas (C C3 : Addr) : L2.Tr.Env → Option Out := (seqF (asgF (metF C "told_values" (fTV C) (atP 0) (consD (atP 1) nilD)) (setF 3)) (seqF (ifS (notB (truF (app1 fAVal (consD (atP 2) (consD (atP 3) nilD))))) neverF skipF) (retF (app1 (mkD C3 (fLInit C3)) (consD (atP 0) (consD (tupDisp (consD (tupDisp (consD (kD (.leaf (.str "in"))) (consD (bin2 indexD (mapS (metFO C "names" (fNames C) (atP 0))) (atP 1)) (consD (app1 tupD (consD (atP 2) nilD)) nilD)))) nilD)) nilD))))))
def fHas (C C3 : Addr) (ds : List D) : Option D := if ds.length = (["columns", "name", "values"] : List Str).length then runF nHas.length (FHas C C3 ) ds else none
theorem okHas {f : Addr} {fd : FuncData} (C C3 : Addr) (F : Fun K "has" "has" sHas f fd) (B : TxB2 mg) (mk : Mkr P w K mg base "Look" C3 2 (fLInit C3)) (mT : Mth P w K mg base C "told_values" 2 (fTV C)) (mN : MthO P w K mg base C "names" 1 (fNames C)) (hAV : Fn P w K mg base "are_values_looks" 3 2 fAVal) : FnOk P w K mg base CX0 4 f fd ["columns", "name", "values"] (spP (fHas C C3 )) :=
  ok_def (N := nHas) (Φ := FHas C C3 ) F scHas fun cdv A outer s H E hr => ⟨_, (ss_cons (sd_nm (pu_meth mT (hr.mono (by first | decide | omega)) (pu_var (pv 0)) (ar_cons (pu_var (pv 1)) ar_nil)) (fun h => ps_set (i := 3) scHas.nd rfl (by first | exact Or.inl rfl | exact Or.inr rfl) h)) (ss_cons (sd_if (te_not (te_tru (PuD.vi (pu_call hAV (hr.mono (by first | decide | omega)) (by rfl) (ar_cons (pu_var (pv 2)) (ar_cons (pu_var (pv 3)) ar_nil)))) (fun _ => rfl))) (ss_one sd_never) ss_nil) (ss_one (sd_ret (pu_make mk (hr.mono (by first | decide | omega)) (by rfl) (ar_cons (pu_var (pv 0)) (ar_cons (pu_tup (ar_cons (pu_tup (ar_cons (pu_c pe_str (by decide +kernel)) (ar_cons (pu_index (OwD.pu (ow_meth0 mN (hr.mono (by first | decide | omega)) (pu_var (pv 0)))) (pu_var (pv 1)) (fun ho h => pe_bm PySem.F.plainAttrs_list PySem.F.slot_list_index PySem.F.type_list_index mt_index ho (pa_cons h pa_nil))) (ar_cons (pu_cty call_tuple_of r1_tup (by rfl) B.z_tuple (by decide +kernel) (av_cons (PuD.vi (pu_var (pv 2))) av_nil)) ar_nil)))) ar_nil)) ar_nil)))))))⟩
abbrev sSame2 : Stmt := top 29
abbrev nSame2 : List Str := ["columns", "first", "second", "one", "other", "names"]
theorem scSame2 : FnScope nSame2 ["columns", "first", "second"] (defScope sSame2) := ⟨rfl, rfl, rfl, by decide +kernel, rfl, by decide +kernel, by decide +kernel⟩
def FSame2 (C C3 : Addr) : L2.Tr.Env → Option Out := (seqF (par_pp 3 4 (metF C "told_values" (fTV C) (atP 0) (consD (atP 1) nilD)) (metF C "told_values" (fTV C) (atP 0) (consD (atP 2) nilD))) (seqF (ifS (orB (asBF (bin2 (scD false) (atP 1) (atP 2))) (asBF (bin2 (eqP true) (atP 3) (atP 4)))) neverF skipF) (seqF (asgF (mapS (metFO C "names" (fNames C) (atP 0))) (setF 5)) (retF (app1 (mkD C3 (fLInit C3)) (consD (atP 0) (consD (tupDisp (consD (tupDisp (consD (kD (.leaf (.str "same"))) (consD (bin2 indexD (atP 5) (atP 1)) (consD (bin2 indexD (atP 5) (atP 2)) nilD)))) nilD)) nilD)))))))
def fSame2 (C C3 : Addr) (ds : List D) : Option D := if ds.length = (["columns", "first", "second"] : List Str).length then runF nSame2.length (FSame2 C C3 ) ds else none
theorem okSame2 {f : Addr} {fd : FuncData} (C C3 : Addr) (F : Fun K "same" "same" sSame2 f fd) (B : TxB2 mg) (mk : Mkr P w K mg base "Look" C3 2 (fLInit C3)) (mT : Mth P w K mg base C "told_values" 2 (fTV C)) (mN : MthO P w K mg base C "names" 1 (fNames C)) : FnOk P w K mg base CX0 4 f fd ["columns", "first", "second"] (spP (fSame2 C C3 )) :=
  ok_def (N := nSame2) (Φ := FSame2 C C3 ) F scSame2 fun cdv A outer s H E hr => ⟨_, (ss_cons (sd_par_pp (pu_meth mT (hr.mono (by first | decide | omega)) (pu_var (pv 0)) (ar_cons (pu_var (pv 1)) ar_nil)) (pu_meth mT (hr.mono (by first | decide | omega)) (pu_var (pv 0)) (ar_cons (pu_var (pv 2)) ar_nil)) (by decide) (fun h => ps_par (i := 3) (j := 4) rfl scSame2.nd rfl rfl (by decide) rfl rfl h (by rfl))) (ss_cons (sd_if (TwD.te (tw_or (te_cmp op_eq r2_eqS (nomark _) (PuD.vi (pu_var (pv 1))) (PuD.vi (pu_var (pv 2)))) (tw_or1 (te_cmp (op_neD (hr.units)) r2_neD (nomark _) (PuD.vi (pu_var (pv 3))) (PuD.vi (pu_var (pv 4))))))) (ss_one sd_never) ss_nil) (ss_cons (sd_nm (OwD.pu (ow_meth0 mN (hr.mono (by first | decide | omega)) (pu_var (pv 0)))) (fun h => ps_set (i := 5) scSame2.nd rfl (by first | exact Or.inl rfl | exact Or.inr rfl) h)) (ss_one (sd_ret (pu_make mk (hr.mono (by first | decide | omega)) (by rfl) (ar_cons (pu_var (pv 0)) (ar_cons (pu_tup (ar_cons (pu_tup (ar_cons (pu_c pe_str (by decide +kernel)) (ar_cons (pu_index (pu_var (pv 5)) (pu_var (pv 1)) (fun ho h => pe_bm PySem.F.plainAttrs_list PySem.F.slot_list_index PySem.F.type_list_index mt_index ho (pa_cons h pa_nil))) (ar_cons (pu_index (pu_var (pv 5)) (pu_var (pv 2)) (fun ho h => pe_bm PySem.F.plainAttrs_list PySem.F.slot_list_index PySem.F.type_list_index mt_index ho (pa_cons h pa_nil))) ar_nil)))) ar_nil)) ar_nil))))))))⟩
end
end L2.K1

/-! The stream, of law k01: as law k02's Na. -/
namespace L2.K1
open PySem PySem.Spec PyProof.Rows
abbrev sDraw : Stmt := top 82
abbrev sStart : Stmt := top 83
/-! ### the stream: a list at a of the script's rest (a list at b) and three numbers -/
structure StO (H : Hp) (a b : Addr) (n : Nat) : Prop where
  ex : ∃ (ns : List Int) (c1 c2 c3 : Int), H a = some (.lst [.ref b, .int c1, .int c2, .int c3]) ∧ H b = some (.lst (ns.map V.int)) ∧ 0 ≤ c1 ∧ 0 ≤ c2 ∧ c2 ≤ n ∧ 0 ≤ c3 ∧ c3 < 2147483647
/-- all that was tracked, but for the addresses of S, is as it was -/
def Kp (S : Addr → Prop) (H H' : Hp) : Prop := ∀ c o, H c = some o → ¬ S c → H' c = some o
theorem Kp.refl {S : Addr → Prop} (H : Hp) : Kp S H H := fun _ _ h _ => h
theorem Kp.trans {S : Addr → Prop} {H H1 H2 : Hp} (p : Kp S H H1) (q : Kp S H1 H2) : Kp S H H2 := fun c o h n => q c o (p c o h n) n
theorem Kp.of {S : Addr → Prop} {H H' : Hp} (e : Same H H') : Kp S H H' := fun c o h _ => e c o h
abbrev two (a b : Addr) : Addr → Prop := fun c => c = a ∨ c = b
theorem StO.kp {H H' : Hp} {a b : Addr} {n : Nat} (s : StO H a b n) (e : Same H H') : StO H' a b n := by
  obtain ⟨ns, c1, c2, c3, h1, h2, h⟩ := s.ex
  exact ⟨ns, c1, c2, c3, e _ _ h1, e _ _ h2, h⟩
theorem StO.le {H : Hp} {a b : Addr} {n m : Nat} (s : StO H a b n) (h : n ≤ m) : StO H a b m := by
  obtain ⟨ns, c1, c2, c3, h1, h2, h3, h4, h5, h6⟩ := s.ex
  exact ⟨ns, c1, c2, c3, h1, h2, h3, h4, by omega, h6⟩
/-- what is free behind was free ahead -/
theorem StO.free {H H' : Hp} {a b p : Addr} {m : Nat} (s : StO H' a b m) (k : Kp (two a b) H H') (h : H' p = none) : H p = none := by
  obtain ⟨ns, c1, c2, c3, h1, h2, _⟩ := s.ex
  cases e : H p with
  | none => rfl
  | some o =>
    by_cases ha : p = a
    · rw [ha, h1] at h; cases h
    · by_cases hb : p = b
      · rw [hb, h2] at h; cases h
      · rw [k p o e (fun z => z.elim ha hb)] at h; cases h
def spDraw : Sp := fun vs H Q _ => ∃ (a b : Addr) (m : Int) (n : Nat), vs = [.ref a, .int m] ∧ StO H a b n ∧ n ≤ 1000000 ∧ 0 < m ∧ m < 1000000 ∧
  ∀ (d : Int) (H' : Hp), 0 ≤ d → d < m → StO H' a b (n + 1) → Kp (two a b) H H' → Q (.int d) H'
/-- list(script), 0, 0, 0 -/
def spStart (K : PySem.W.Frag) : Sp := fun vs H Q _ => ∃ (p : Addr) (ns : List Int), vs = [.ref p] ∧ SqL K H p (ns.map V.int) ∧
  ∀ (a b : Addr) (H' : Hp), StO H' a b 0 → Same H H' → H a = none → H b = none → Q (.ref a) H'
structure TxA (mg : Str → Option Value) : Prop where
  z_int : mg "int" = none
  z_list : mg "list" = none
section
variable {P : Program} {w : World} {K : PySem.W.Frag} {mg : Str → Option Value} {base : Heap}
theorem scDraw : FnScope ["_law_stream", "_law_many", "_law_digit", "_law_mixed"] ["_law_stream", "_law_many"] (defScope sDraw) := ⟨rfl, rfl, rfl, by decide +kernel, rfl, by decide +kernel, by decide +kernel⟩
theorem dp_ints {H : Hp} : ∀ ns : List Int, DpAll K H (ns.map V.int) (ns.map PyData.int)
  | [] => .nil
  | n :: r => .cons (.int n) (dp_ints r)
theorem fmod_lt {i j : Int} (h : 0 < j) : 0 ≤ i.fmod j ∧ i.fmod j < j := by
  rw [Int.fmod_eq_emod_of_nonneg _ (Int.le_of_lt h)]
  exact ⟨Int.emod_nonneg _ (by omega), Int.emod_lt_of_pos _ h⟩
theorem fdiv_nn {i j : Int} (hi : 0 ≤ i) (h : 0 < j) : 0 ≤ i.fdiv j := by
  rw [Int.fdiv_eq_ediv_of_nonneg _ (Int.le_of_lt h)]
  exact Int.ediv_nonneg hi (Int.le_of_lt h)
theorem ok_draw {f : Addr} {fd : FuncData} (F : Fun K "_law_draw" "_law_draw" sDraw f fd) (T : TxA mg) : FnOk P w K mg base CX0 1 f fd ["_law_stream", "_law_many"] spDraw := by
  refine F.ok scDraw (fun vs H Q E h => ?_) (fun cdv A outer s H vs Q E hr h => ?_)
  · obtain ⟨a, b, m, n, rfl, _⟩ := h
    rfl
  · obtain ⟨a, b, m, n, rfl, hS, hn, hm, hm2, k⟩ := h
    obtain ⟨ns, c1, c2, c3, ha, hb, p1, p2, p2', p3, p3'⟩ := hS.ex
    have hab : a ≠ b := fun z => by
      rw [z, hb] at ha
      cases ns with
      | nil => cases ha
      | cons x r =>
        have := Option.some.inj ha
        injection this with this
        injection this with this _
        cases this
    refine ⟨_, (pss_cons (ps_asg (pe_op op_add (pe_ix ix_list (pv 0) pe_int (fun _ _ => rfl)) pe_int) (pg_sub (pv 0) pe_int set_list)) (C8.pss_cut (ps_if (PW.pt (pw_and (pt_cmpR op_eq (pe_ix ix_list (pv 0) pe_int (fun _ _ => rfl)) pe_int (nomark _)) (pw_and1 (pt_cmpR (op_neD hr.units) (pe_ix ix_list (pv 0) pe_int (fun _ _ => rfl)) (pe_lst pa_nil) (nomark _))))) (pss_cons (ps_asg (pe_bm PySem.F.plainAttrs_list PySem.F.slot_list_pop PySem.F.type_list_pop mt_popAt (pe_ix ix_list (pv 0) pe_int (fun _ _ => rfl)) (pa_cons pe_int pa_nil)) (pg_sub (pv 0) pe_int set_list)) (pss_one (ps_if (pt_cmpR op_lt (pe_ix ix_list (pv 0) pe_int (fun _ _ => rfl)) (pe_op op_pow pe_int pe_int) (nomark _)) (pss_cons (ps_asg (pe_op op_modN (pe_callTy call_int1 (by rfl) T.z_int (by decide +kernel) (pa_cons (pe_op op_add (pe_op op_add (pe_op op_mul (pe_ix ix_list (pv 0) pe_int (fun _ _ => rfl)) pe_int) (pe_ix ix_list (pv 0) pe_int (fun _ _ => rfl))) pe_int) pa_nil)) pe_int) (pg_sub (pv 0) pe_int set_list)) (pss_one (ps_asg pe_int (pg_sub (pv 0) pe_int set_list)))) pss_nil))) pss_nil) (pss_cons (ps_if (pt_cmpR op_gt (pe_ix ix_list (pv 0) pe_int (fun _ _ => rfl)) pe_int (nomark _)) (pss_cons (ps_set (i := 2) scDraw.nd rfl (Or.inl rfl) (pe_op op_modN (pe_callTy call_int1 (by rfl) T.z_int (by decide +kernel) (pa_cons (pe_ix ix_list (pv 0) pe_int (fun _ _ => rfl)) pa_nil)) (pv 1))) (pss_cons (ps_asg (pe_op op_fdivN (pe_ix ix_list (pv 0) pe_int (fun _ _ => rfl)) (pv 1)) (pg_sub (pv 0) pe_int set_list)) (pss_one (ps_ret (pv 2))))) pss_nil) (pss_cons (ps_set (i := 3) scDraw.nd rfl (Or.inl rfl) (pe_op op_modN (pe_op op_pow (pe_op op_add (pe_op op_add (pe_ix ix_list (pv 0) pe_int (fun _ _ => rfl)) (pe_op op_mul pe_int (pe_ix ix_list (pv 0) pe_int (fun _ _ => rfl)))) pe_int) pe_int) pe_int)) (pss_one (ps_ret (pe_op op_modN (pe_op op_modN (pe_op op_pow (pe_op op_add (pe_op op_add (pe_op op_mul (pv 3) pe_int) (pe_op op_mul (pe_op op_mul pe_int (pe_ix ix_list (pv 0) pe_int (fun _ _ => rfl))) (pe_ix ix_list (pv 0) pe_int (fun _ _ => rfl)))) pe_int) pe_int) pe_int) (pv 1)))))))), ?_⟩
    -- stream[2] = stream[2] + 1
    refine ⟨_, rfl, a, _, 2, _, rfl, rfl, SqL.of ha, rfl, _, _, rfl, rfl, _, rfl, a, _, 2, 2, rfl, rfl, ha, rfl, ?_⟩
    generalize e1 : upd H a _ = H1
    have h1a : H1 a = some (.lst [.ref b, .int c1, .int (c2 + 1), .int c3]) := by rw [← e1]; exact upd_same
    have h1b : H1 b = some (.lst (ns.map V.int)) := by rw [← e1, upd_ne (Ne.symm hab)]; exact hb
    have k1 : Kp (two a b) H H1 := fun c o h z => by rw [← e1, upd_ne (fun q => z (.inl q))]; exact h
    refine ⟨fun σ' H' => σ' = [some (.ref a), some (.int m), none, none] ∧ StO H' a b (n + 1) ∧ Kp (two a b) H H', ?_, ?_⟩
    · -- if stream[1] == 0 and stream[0] != []
      refine ⟨_, rfl, a, _, 1, _, rfl, rfl, SqL.of h1a, rfl, rfl, _, rfl, ?_⟩
      refine ite2 (fun hc => ?_) (fun hc => ?_)
      · have hc0 : c1 = 0 := by simpa using hc
        subst hc0
        refine ⟨_, rfl, a, _, 0, _, rfl, rfl, SqL.of h1a, rfl, (by show 0 ≤ sizeLine; decide), fun p hp => ?_⟩
        have k2 : ∀ {c o}, H1 c = some o → upd H1 p (.lst []) c = some o := fun {c o} z => by rw [upd_ne (ne_of_none z hp)]; exact z
        refine ⟨_, _, .lst (SqL.of (k2 h1b)) (dp_ints ns), .lst (SqL.of upd_same) .nil, PySem.W.ke_shaped_ints ns, (by decide), _, rfl, ?_⟩
        generalize e2 : upd H1 p (.lst []) = H2 at k2
        have h2a := k2 h1a
        have h2b := k2 h1b
        have k12 : Kp (two a b) H H2 := k1.trans (fun c o h _ => k2 h)
        cases ns with
        | nil =>
          refine iteF ?_
          exact ⟨rfl, ⟨[], 0, c2 + 1, c3, h2a, h2b, by omega, by omega, by omega, p3, p3'⟩, k12⟩
        | cons x r =>
          refine iteT ?_
          -- stream[1] = stream[0].pop(0)
          refine ⟨_, rfl, a, _, 0, _, rfl, rfl, SqL.of h2a, rfl, .inl ⟨rfl, _, SqL.of h2b⟩, b, _, 0, 0, _, rfl, rfl, h2b, by decide, by decide, (by rw [List.map_cons, List.length_cons]; simp [seqIndex?]; try omega), rfl, ?_⟩
          generalize e3 : upd H2 b _ = H3
          have h3a : H3 a = some (.lst [.ref b, .int 0, .int (c2 + 1), .int c3]) := by rw [← e3, upd_ne hab]; exact h2a
          have h3b : H3 b = some (.lst (r.map V.int)) := by rw [← e3]; exact upd_same
          refine ⟨_, rfl, a, _, 1, 1, rfl, rfl, h3a, rfl, ?_⟩
          generalize e4 : upd H3 a _ = H4
          have h4a : H4 a = some (.lst [.ref b, .int x, .int (c2 + 1), .int c3]) := by rw [← e4]; exact upd_same
          have h4b : H4 b = some (.lst (r.map V.int)) := by rw [← e4, upd_ne (Ne.symm hab)]; exact h3b
          have k14 : Kp (two a b) H H4 := k12.trans fun c o h z => by
            rw [← e4, upd_ne (fun q => z (.inl q)), ← e3, upd_ne (fun q => z (.inr q))]; exact h
          -- if stream[1] < 10 ** 18
          refine ⟨_, rfl, a, _, 1, _, rfl, rfl, SqL.of h4a, rfl, _, _, rfl, rfl, ⟨by decide, by decide, by decide⟩, _, _, rfl, rfl, _, rfl, ?_⟩
          refine ite2 (fun hc => ?_) (fun hc => ?_)
          · refine ⟨_, rfl, a, _, 3, _, rfl, rfl, SqL.of h4a, rfl, _, _, rfl, rfl, .inr ⟨by decide, by decide⟩, _, rfl, a, _, 1, _, rfl, rfl, SqL.of h4a, rfl, _, _, rfl, rfl, _, _, rfl, rfl,
              .inl ⟨_, rfl, _, _, rfl, rfl, (by show (2147483647 : Int) ≠ 0; decide), _, rfl, a, _, 3, 3, rfl, rfl, h4a, rfl, ?_⟩⟩
            generalize e5 : upd H4 a _ = H5
            have h5a : H5 a = some (.lst [.ref b, .int x, .int (c2 + 1), .int ((c3 * 31 + x + 7).fmod 2147483647)]) := by rw [← e5]; exact upd_same
            refine ⟨_, rfl, a, _, 1, 1, rfl, rfl, h5a, rfl, ?_⟩
            refine ⟨rfl, ⟨r, 0, c2 + 1, (c3 * 31 + x + 7).fmod 2147483647, upd_same, ?_, by omega, by omega, by omega, (fmod_lt (by decide)).1, (fmod_lt (by decide)).2⟩, k14.trans fun c o h z => ?_⟩
            · rw [upd_ne (Ne.symm hab), ← e5, upd_ne (Ne.symm hab)]; exact h4b
            · rw [upd_ne (fun q => z (.inl q)), ← e5, upd_ne (fun q => z (.inl q))]; exact h
          · have hx : ¬ x < 10 ^ 18 := by simpa using hc
            exact ⟨rfl, ⟨r, x, c2 + 1, c3, h4a, h4b, by omega, by omega, by omega, p3, p3'⟩, k14⟩
      · exact ⟨rfl, ⟨ns, c1, c2 + 1, c3, h1a, h1b, p1, by omega, by omega, p3, p3'⟩, k1⟩
    · rintro σ' H' ⟨rfl, S', kk⟩
      obtain ⟨ns', d1, d2, d3, ga, gb, q1, q2, q2', q3, q3'⟩ := S'.ex
      -- if stream[1] > 0
      refine ⟨_, rfl, a, _, 1, _, rfl, rfl, SqL.of ga, rfl, _, _, rfl, rfl, _, rfl, ?_⟩
      refine ite2 (fun hc => ?_) (fun hc => ?_)
      · have hd1 : 0 < d1 := by simpa using hc
        refine ⟨_, rfl, a, _, 1, _, rfl, rfl, SqL.of ga, rfl, .inl ⟨_, rfl, _, rfl, _, _, rfl, rfl, by omega, ?_⟩⟩
        refine ⟨_, rfl, a, _, 1, _, rfl, rfl, SqL.of ga, rfl, _, rfl, _, _, rfl, rfl, ⟨by omega, by omega⟩, _, rfl, a, _, 1, 1, rfl, rfl, ga, rfl, ?_⟩
        refine ⟨_, rfl, ?_⟩
        refine k (d1.fmod m) _ (fmod_lt hm).1 (fmod_lt hm).2 ⟨ns', d1.fdiv m, d2, d3, upd_same, ?_, fdiv_nn q1 hm, q2, q2', q3, q3'⟩ (kk.trans fun c o h z => ?_)
        · rw [upd_ne (Ne.symm hab)]; exact gb
        · rw [upd_ne (fun q => z (.inl q))]; exact h
      · -- the mixed draw
        have b2 : d2 ≤ 1000001 := by omega
        refine ⟨_, rfl, a, _, 3, _, rfl, rfl, SqL.of ga, rfl, _, rfl, a, _, 2, _, rfl, rfl, SqL.of ga, rfl, _, _, rfl, rfl, .inl ⟨by decide, by decide⟩, _, _, rfl, rfl, _, _, rfl, rfl, _, _, rfl, rfl, ⟨by decide, by decide, by omega⟩, _, _, rfl, rfl, (by show (2147483629 : Int) ≠ 0; decide), ?_⟩
        have w1 := fmod_lt (i := (d3 + 104729 * d2 + 17) ^ Int.toNat 5) (j := 2147483629) (by decide)
        generalize e1 : ((d3 + 104729 * d2 + 17) ^ Int.toNat 5).fmod 2147483629 = x1 at w1
        have m0 : 0 ≤ d2 * d2 := Int.mul_nonneg q2 q2
        have m1 : d2 * d2 ≤ 1000001 * 1000001 := Int.mul_le_mul b2 b2 q2 (by decide)
        have m2 : 40503 * d2 * d2 = 40503 * (d2 * d2) := Int.mul_assoc _ _ _
        generalize d2 * d2 = y at m0 m1 m2
        refine ⟨_, rfl, _, _, rfl, rfl, .inl ⟨by omega, by omega⟩, _, rfl, a, _, 2, _, rfl, rfl, SqL.of ga, rfl, _, _, rfl, rfl, .inl ⟨by decide, by decide⟩, _, rfl, a, _, 2, _, rfl, rfl, SqL.of ga, rfl, _, _, rfl, rfl, .inl ⟨by omega, by omega⟩, _, _, rfl, rfl, _, _, rfl, rfl,
          _, _, rfl, rfl, ⟨by decide, by decide, by rw [m2]; omega⟩, _, _, rfl, rfl, (by show (1000000007 : Int) ≠ 0; decide), _, rfl, _, _, rfl, rfl, (by omega), ?_⟩
        exact k _ _ (fmod_lt hm).1 (fmod_lt hm).2 S' kk
theorem scStart : FnScope ["_law_script"] ["_law_script"] (defScope sStart) := ⟨rfl, rfl, rfl, by decide +kernel, rfl, by decide +kernel, by decide +kernel⟩
theorem ok_start {f : Addr} {fd : FuncData} (F : Fun K "_law_start" "_law_start" sStart f fd) (T : TxA mg) : FnOk P w K mg base CX0 1 f fd ["_law_script"] (spStart K) := by
  refine F.ok scStart (fun vs H Q E h => ?_) (fun cdv A outer s H vs Q E hr h => ?_)
  · obtain ⟨p, ns, rfl, _⟩ := h
    rfl
  · obtain ⟨p, ns, rfl, hp, k⟩ := h
    refine ⟨_, (pss_one (ps_ret (pe_lst (pa_cons (pe_callTy call_list_of (by rfl) T.z_list (by decide +kernel) (pa_cons (pv 0) pa_nil)) (pa_cons pe_int (pa_cons pe_int (pa_cons pe_int pa_nil))))))), ?_⟩
    refine ⟨_, rfl, p, _, rfl, .inl hp, fun b nb => ?_⟩
    refine ⟨by show 4 ≤ sizeLine; decide, fun a na => ?_⟩
    have hab : a ≠ b := fun z => by rw [z, upd_same] at na; cases na
    have na' : H a = none := by rw [upd_ne hab] at na; exact na
    exact k a b _ ⟨ns, 0, 0, 0, upd_same, by rw [upd_ne (Ne.symm hab)]; exact upd_same, by decide, by decide, by decide, by decide, by decide⟩
      (fun c o h => by rw [upd_ne (ne_of_none h na'), upd_ne (ne_of_none h nb)]; exact h) na' nb
end
end L2.K1

namespace L2.K1
open PySem PySem.Spec PyProof.Rows
abbrev sPick : Stmt := top 84
namespace L2.K1
open PySem PySem.Spec PyProof.Rows L2.Tr
abbrev sD (x : Str) : D := .leaf (.str x)
def abc : Str := "abcdefghijklmnopqrstuvwxyz"
def isW (x : Str) : Bool := decide ((1 : Int) ≤ x.length) && (decide ((x.length : Int) ≤ 8) && x.cps.toList.all fun c => decide (c ∈ abc.cps.toList))
/-! statements -/
theorem seq_if_f {t : L2.Tr.Env → Option Bool} {Φa Φ : L2.Tr.Env → Option Out} {ρ : L2.Tr.Env} (h : t ρ = some false) : seqF (ifS t Φa skipF) Φ ρ = Φ ρ := by
  unfold seqF ifS
  rw [h]; rfl
theorem seq_nx {Φ Ψ : L2.Tr.Env → Option Out} {ρ ρ2 : L2.Tr.Env} (h : Φ ρ = some (.nx ρ2)) : seqF Φ Ψ ρ = Ψ ρ2 := by
  unfold seqF
  rw [h]; rfl
theorem run_rt {n : Nat} {Φ : L2.Tr.Env → Option Out} {ds : List D} {d : D} (h : Φ (env0 n ds) = some (.rt d)) : runF n Φ ds = some d := by
  unfold runF
  rw [h]; rfl
theorem ret_f {φ : L2.Tr.Env → Option D} {ρ : L2.Tr.Env} {d : D} (h : φ ρ = some d) : retF φ ρ = some (.rt d) := by
  unfold retF
  rw [h]; rfl
theorem and_t {φ ψ : L2.Tr.Env → Option D} {ρ : L2.Tr.Env} (h : φ ρ = some (bD true)) : andF φ ψ ρ = ψ ρ := by
  unfold andF
  rw [h]; rfl
theorem orB_f {χ ξ : L2.Tr.Env → Option Bool} {ρ : L2.Tr.Env} (h : χ ρ = some false) : orB χ ξ ρ = ξ ρ := by
  unfold orB
  rw [h]; rfl
theorem notB_ {χ : L2.Tr.Env → Option Bool} {ρ : L2.Tr.Env} {b : Bool} (h : χ ρ = some b) : notB χ ρ = some (!b) := by
  unfold notB
  rw [h]; rfl
theorem truB {φ : L2.Tr.Env → Option D} {ρ : L2.Tr.Env} {b : Bool} (h : φ ρ = some (bD b)) : truF φ ρ = some b := by
  unfold truF
  rw [h]; rfl
theorem asB_ {φ : L2.Tr.Env → Option D} {ρ : L2.Tr.Env} {b : Bool} (h : φ ρ = some (bD b)) : asBF φ ρ = some b := by
  unfold asBF
  rw [h]; rfl
theorem app_1 {β : Type} {op : List D → Option β} {φ : L2.Tr.Env → Option D} {ρ : L2.Tr.Env} {d : D} (h : φ ρ = some d) : app1 op (consD φ nilD) ρ = op [d] := by
  unfold app1 consD
  rw [h]; rfl
theorem app_2 {β : Type} {op : List D → Option β} {φ ψ : L2.Tr.Env → Option D} {ρ : L2.Tr.Env} {d e : D} (h : φ ρ = some d) (h2 : ψ ρ = some e) : app1 op (consD φ (consD ψ nilD)) ρ = op [d, e] := by
  unfold app1 consD
  rw [h, Option.bind_some, h2]; rfl
theorem bin_2 {β : Type} {op : D → D → Option β} {φ ψ : L2.Tr.Env → Option D} {ρ : L2.Tr.Env} {d e : D} (h : φ ρ = some d) (h2 : ψ ρ = some e) : bin2 op φ ψ ρ = op d e := by
  unfold bin2
  rw [h, Option.bind_some, h2]; rfl
theorem maps_ {ψ : L2.Tr.Env → Option (List D)} {ρ : L2.Tr.Env} {ds : List D} (h : ψ ρ = some ds) : mapS ψ ρ = some (.seq true ds) := by
  show (ψ ρ).map (D.seq true) = _
  rw [h]; rfl
/-! comprehensions that keep all, or some -/
theorem comp_map {θ : D → L2.Tr.Env → Option L2.Tr.Env} {χ : L2.Tr.Env → Option Bool} {φ : L2.Tr.Env → Option D} {ρ : L2.Tr.Env} {g : D → D} : ∀ {ds : List D}, (∀ d ∈ ds, ∃ ρ1, θ d ρ = some ρ1 ∧ χ ρ1 = some true ∧ φ ρ1 = some (g d)) → compF θ χ φ ds ρ = some (ds.map g)
  | [], _ => rfl
  | d :: ds, h => by
    obtain ⟨ρ1, h1, h2, h3⟩ := h d List.mem_cons_self
    unfold compF
    rw [h1, Option.bind_some, h2, Option.bind_some, if_pos rfl, h3, Option.bind_some, comp_map fun x hx => h x (List.mem_cons_of_mem _ hx)]
    rfl
theorem bools_map : ∀ bs : List Bool, boolsOf (bs.map bD) = some bs
  | [] => rfl
  | b :: bs => by show (boolsOf (bs.map bD)).map (b :: ·) = _; rw [bools_map bs]; rfl
theorem all_map {α : Type} (f : α → Bool) (xs : List α) : allD [.seq true (xs.map fun x => bD (f x))] = some (bD (xs.all f)) := by
  show (boolsOf (xs.map fun x => bD (f x))).map (fun bs => bD (bs.all id)) = _
  have e : (xs.map fun x => bD (f x)) = (xs.map f).map bD := by rw [List.map_map]; rfl
  rw [e, bools_map]
  show some (bD ((xs.map f).all id)) = _
  rw [List.all_map]; rfl
/-! is_word -/
end L2.K1

namespace L2.K1
open PySem PySem.Spec PyProof.Rows
abbrev sWord : Stmt := top 86
/-- a word of one to eight letters -/
def spWord : Sp := fun vs H Q _ => ∃ (a b : Addr) (n : Nat), vs = [.ref a] ∧ StO H a b n ∧ n + 9 ≤ 1000000 ∧
  ∀ (x : Str) (H' : Hp), isW x = true → StO H' a b (n + 9) → Kp (two a b) H H' → Q (.str x) H'
theorem StO.new {H : Hp} {a b p : Addr} {n : Nat} {o : HO} (s : StO H a b n) (h : H p = none) : StO (upd H p o) a b n := s.kp fun c u e => by rw [upd_ne (ne_of_none e h)]; exact e
theorem Kp.new {S : Addr → Prop} {H : Hp} {p : Addr} {o : HO} (h : H p = none) : Kp S H (upd H p o) := fun c u e _ => by rw [upd_ne (ne_of_none e h)]; exact e
section
variable {P : Program} {w : World} {K : PySem.W.Frag} {mg : Str → Option Value} {base : Heap}
abbrev nWord : List Str := ["_law_stream", "_law_size", "_law_k"]
theorem scWord : FnScope nWord ["_law_stream"] (defScope sWord) := ⟨rfl, rfl, rfl, by decide +kernel, rfl, by decide +kernel, by decide +kernel⟩
theorem glue_list : ∀ (ys : List Str) (acc : Array Nat), (ys.foldl (fun acc p => acc ++ (Str.ofString "").cps ++ p.cps) acc).toList = acc.toList ++ ys.flatMap fun y => y.cps.toList
  | [], acc => by rw [List.flatMap_nil, List.append_nil]; rfl
  | y :: ys, acc => by
    have e : (Str.ofString "").cps = #[] := by decide +kernel
    rw [List.foldl_cons, glue_list ys, List.flatMap_cons, e, Array.append_empty, Array.toList_append, List.append_assoc]
theorem join_cps : ∀ ys : List Str, ys ≠ [] → (Txt.join "" ys).cps.toList = ys.flatMap fun y => y.cps.toList
  | [], h => absurd rfl h
  | y :: ys, _ => by
    show (ys.foldl (fun acc p => acc ++ (Str.ofString "").cps ++ p.cps) y.cps).toList = _
    rw [glue_list, List.flatMap_cons]
theorem signs_flat : ∀ {ys : List Str}, (∀ y ∈ ys, ∃ c ∈ abc.cps.toList, y = ⟨#[c]⟩) → (ys.flatMap fun y => y.cps.toList).length = ys.length ∧ (∀ c ∈ ys.flatMap (fun y => y.cps.toList), c ∈ abc.cps.toList) ∧ (ys.map (·.length)).sum = ys.length
  | [], _ => ⟨rfl, fun c hc => (List.not_mem_nil hc).elim, rfl⟩
  | y :: ys, h => by
    obtain ⟨c, hc, rfl⟩ := h y List.mem_cons_self
    obtain ⟨h1, h2, h3⟩ := signs_flat fun z hz => h z (List.mem_cons_of_mem _ hz)
    refine ⟨?_, fun z hz => ?_, ?_⟩
    · rw [List.flatMap_cons, List.length_append, h1]
      show 1 + ys.length = ys.length + 1
      omega
    · rw [List.flatMap_cons] at hz
      rcases List.mem_append.mp hz with q | q
      · have : z = c := by simpa using q
        rw [this]; exact hc
      · exact h2 z q
    · rw [List.map_cons, List.sum_cons, h3, List.length_cons]
      show 1 + ys.length = ys.length + 1
      omega
theorem join_isW {ys : List Str} (h1 : 1 ≤ ys.length) (h8 : ys.length ≤ 8) (h : ∀ y ∈ ys, ∃ c ∈ abc.cps.toList, y = ⟨#[c]⟩) : isW (Txt.join "" ys) = true ∧ (ys.map (·.length)).sum ≤ 8 := by
  have hne : ys ≠ [] := fun z => by rw [z] at h1; simp at h1
  obtain ⟨g1, g2, g3⟩ := signs_flat h
  have e := join_cps ys hne
  have hl : (Txt.join "" ys).length = ys.length := by
    have : (Txt.join "" ys).length = (Txt.join "" ys).cps.toList.length := by rw [Array.length_toList]; rfl
    rw [this, e, g1]
  refine ⟨?_, by omega⟩
  unfold isW
  rw [hl, e, decide_eq_true (by omega), decide_eq_true (by omega), List.all_eq_true.mpr fun c hc => decide_eq_true (g2 c hc)]
  rfl
theorem ok_word {f fdr fpk : Addr} {fd ddr dpk : FuncData} (F : Fun K "_law_word" "_law_word" sWord f fd) (hrange : mg "range" = none) (m_dr : mg "_law_draw" = some (.ref fdr)) (k_dr : PySem.W.keepIn K (.ref fdr) = true) (GD : FnOk P w K mg base CX0 1 fdr ddr ["_law_stream", "_law_many"] spDraw) (bD : Binds K ddr ["_law_stream", "_law_many"] [])
    (m_pk : mg "_law_pick" = some (.ref fpk)) (k_pk : PySem.W.keepIn K (.ref fpk) = true) (GP : FnOk P w K mg base CX0 2 fpk dpk ["_law_stream", "_law_some_here"] spPickS) (bP : Binds K dpk ["_law_stream", "_law_some_here"] []) :
    FnOk P w K mg base CX0 3 f fd ["_law_stream"] spWord := by
  refine F.ok scWord (fun vs H Q E h => ?_) (fun cdv A outer s H vs Q E hr h => ?_)
  · obtain ⟨a, b, n, rfl, _⟩ := h
    rfl
  · obtain ⟨a, b, n, rfl, S, hn, k⟩ := h
    refine ⟨_, (pss_cons (ps_set (i := 1) scWord.nd rfl (by first | exact Or.inl rfl | exact Or.inr rfl) (pe_ix ix_list (pe_lst (pa_cons pe_int (pa_cons pe_int (pa_cons pe_int (pa_cons pe_int (pa_cons pe_int (pa_cons pe_int pa_nil))))))) (pe_call GD (hr.mono (by decide)) rfl m_dr k_dr bD .nil pass0 (pa_cons (pv 0) (pa_cons pe_int pa_nil))) (fun _ _ => rfl)))
      (pss_one (ps_ret (pe_join pe_str (pe_lc (own := [("_law_k", 2)]) rfl scWord.nd (pi_range1 (by rfl) hrange (pa_cons (pv 1) pa_nil)) (blkOk_by (N := nWord) (sc := defScope sWord) (by decide +kernel)) (fun _ _ _ _ _ => pg_name (i := 2) scWord.nd rfl (Or.inl rfl)) (fun _ _ _ _ _ => pts_nil)
        (fun _ _ _ _ _ => pe_call GP (hr.mono (by decide)) rfl m_pk k_pk bP .nil pass0 (pa_cons (pv 0) (pa_cons pe_str pa_nil)))))))), ?_⟩
    refine ⟨by show 6 ≤ sizeLine; decide, fun p np => ⟨_, rfl, a, b, 6, n, rfl, S.new np, by omega, by decide, by decide, fun d H1 hd0 hd S1 k1 => ?_⟩⟩
    have kp : Kp (two a b) H H1 := (Kp.new np).trans k1
    have hpa : p ≠ a := fun z => by
      obtain ⟨ns, c1, c2, c3, g1, g2, _⟩ := S.ex
      rw [z, g1] at np; cases np
    have hpb : p ≠ b := fun z => by
      obtain ⟨ns, c1, c2, c3, g1, g2, _⟩ := S.ex
      rw [z, g2] at np; cases np
    have hp1 : H1 p = some (.lst [.int 1, .int 1, .int 2, .int 3, .int 4, .int 8]) := k1 _ _ upd_same (fun z => z.elim hpa hpb)
    obtain ⟨m, hm1, hm8, hat⟩ : ∃ m : Nat, 1 ≤ m ∧ m ≤ 8 ∧ atI [V.int 1, V.int 1, V.int 2, V.int 3, V.int 4, V.int 8] d = some (.int (m : Nat)) := by
      obtain ⟨j, rfl⟩ := Int.eq_ofNat_of_zero_le hd0
      have hj : j < 6 := by have : ((j : Nat) : Int) < 6 := hd; omega
      have : j = 0 ∨ j = 1 ∨ j = 2 ∨ j = 3 ∨ j = 4 ∨ j = 5 := by omega
      rcases this with rfl | rfl | rfl | rfl | rfl | rfl
      · exact ⟨1, by omega, by omega, rfl⟩
      · exact ⟨1, by omega, by omega, rfl⟩
      · exact ⟨2, by omega, by omega, rfl⟩
      · exact ⟨3, by omega, by omega, rfl⟩
      · exact ⟨4, by omega, by omega, rfl⟩
      · exact ⟨8, by omega, by omega, rfl⟩
    refine ⟨p, _, _, _, rfl, rfl, SqL.of hp1, hat, ?_⟩
    refine ⟨⟨_, rfl⟩, _, rfl, (m : Nat), rfl, by omega, by omega, fun D nD => ?_⟩
    have nDH : H D = none := S1.free kp nD
    have hDa : D ≠ a := fun z => by
      obtain ⟨ns, c1, c2, c3, g1, g2, _⟩ := S1.ex
      rw [z, g1] at nD; cases nD
    have hDb : D ≠ b := fun z => by
      obtain ⟨ns, c1, c2, c3, g1, g2, _⟩ := S1.ex
      rw [z, g2] at nD; cases nD
    have sUp : ∀ {H' : Hp} {n' : Nat} {o : HO}, StO H' a b n' → StO (upd H' D o) a b n' := fun {H' n' o} s => by
      obtain ⟨ns, c1, c2, c3, g1, g2, g⟩ := s.ex
      exact ⟨ns, c1, c2, c3, by rw [upd_ne (Ne.symm hDa)]; exact g1, by rw [upd_ne (Ne.symm hDb)]; exact g2, g⟩
    have kUp : ∀ {H' : Hp} {o : HO}, Kp (two a b) H H' → Kp (two a b) H (upd H' D o) := fun {H' o} kk c u e ns => by
      rw [upd_ne (ne_of_none e nDH)]; exact kk c u e ns
    refine lc_it walk_range (fun i H' => ∃ ys : List Str, H' D = some (.lst (ys.map V.str)) ∧ ys.length = i ∧ (∀ y ∈ ys, ∃ c ∈ abc.cps.toList, y = ⟨#[c]⟩) ∧ StO H' a b (n + 1 + i) ∧ Kp (two a b) H H') ⟨[], upd_same, rfl, fun y hy => (List.not_mem_nil hy).elim, sUp S1, kUp kp⟩ (fun _ _ _ _ => trivial) ?_ ?_
    · rintro i x H2 H3 hi ⟨ys, g1, g2, g3, S2, k2⟩ ⟨rfl, rfl⟩
      refine ⟨rfl, ?_⟩
      unfold tYes
      dsimp only
      rw [if_pos rfl]
      have hi8 : i < m := by simpa using hi
      refine ⟨_, rfl, a, b, abc, n + 1 + i, rfl, S2, by omega, by decide +kernel, by decide +kernel, fun c H4 hc S4 k4 => ?_⟩
      have g4 := k4 _ _ g1 (fun z => z.elim hDa hDb)
      refine ⟨_, g4, by rw [List.length_map, sizeLine_eq]; omega, ys ++ [⟨#[c]⟩], by rw [upd_same, List.map_append]; rfl, by rw [List.length_append, List.length_singleton]; omega, fun y hy => ?_, sUp S4, kUp (k2.trans k4)⟩
      rcases List.mem_append.mp hy with q | q
      · exact g3 y q
      · exact ⟨c, hc, List.mem_singleton.mp q⟩
    · rintro H2 ⟨ys, g1, g2, g3, S2, k2⟩
      have e : ys.length = m := by rw [g2]; simp
      obtain ⟨w1, w2⟩ := join_isW (by omega) (by omega) g3
      refine ⟨"", D, ys, rfl, rfl, .inl (SqL.of g1), by show _ + ys.length * 0 ≤ _; omega, ?_⟩
      exact k _ _ w1 (S2.le (by rw [← g2, e]; omega)) k2
end
end L2.K1

/-! The stream beside trees. -/
namespace L2.K1
open PySem PySem.Spec PyProof.Rows L2.Tr
/-- the stream at a, its rest at b -/
def St (a b : Addr) : Om Nat where
  I := fun n H => StO H a b n
  F := fun _ c => c = a ∨ c = b
  ext := fun n H H' s e => by
    obtain ⟨ns, c1, c2, c3, h1, h2, h⟩ := s.ex
    exact ⟨ns, c1, c2, c3, e _ _ (.inl rfl) h1, e _ _ (.inr rfl) h2, h⟩
  has := fun n H c s h => by
    obtain ⟨ns, c1, c2, c3, h1, h2, _⟩ := s.ex
    rcases h with rfl | rfl
    · rw [h1]; exact fun z => nomatch z
    · rw [h2]; exact fun z => nomatch z
/-- what a def with the stream promises -/
def spS (f : Addr → List D → Nat → (D → Nat → Prop) → Prop) : Sp := fun vs H Q E => ∃ j : Addr × Addr, spW (St j.1 j.2) (f j.1) vs H Q E
theorem subS {f : Addr → List D → Nat → (D → Nat → Prop) → Prop} {a b : Addr} : ∀ vs H Q, spW (St a b) (f a) vs H Q E0 → spS f vs H Q E0 := fun vs H Q h => ⟨(a, b), h⟩
/-- a stronger promise -/
theorem spS_imp {f g : Addr → List D → Nat → (D → Nat → Prop) → Prop} (h : ∀ a ds n R, g a ds n R → f a ds n R) : ∀ vs H Q E, spS g vs H Q E → spS f vs H Q E := fun vs H Q E ⟨j, s, G, ds, R, x, i, o, r, e, k⟩ => ⟨j, s, G, ds, R, x, i, o, r, h _ _ _ _ e, k⟩
/-- the footprint's frame, as a stream's -/
theorem St.fr {a b : Addr} {G G2 H H' : Hp} {n m : Nat} (x : Ex G H) (i : StO H a b n) (o : ∀ c, c = a ∨ c = b → G c = none) (s : StO H' a b m) (k : Kp (two a b) H H') : FrW (St a b) n G H m G H' := by
  refine ⟨Ex.refl _, fun c u h => k c u (x c u h) fun z => ?_, fun c u h z => k c u h z, fun c _ h => h, s, fun c z => .inl z, fun c z => (St a b).has m H' c s z, o⟩
  rw [o c z] at h; cases h
def drawW (a : Addr) : List D → Nat → (D → Nat → Prop) → Prop := fun ds n R => ∃ m : Int, ds = [.leaf (.ref a), .leaf (.int m)] ∧ 0 < m ∧ m < 1000000 ∧ n ≤ 1000000 ∧ ∀ i : Int, 0 ≤ i → i < m → R (.leaf (.int i)) (n + 1)
theorem subDraw {a b : Addr} : ∀ vs H Q, spW (St a b) (drawW a) vs H Q E0 → spDraw vs H Q E0 := fun vs H Q ⟨n, G, ds, R, x, i, o, r, ⟨m, e, h1, h2, h3, h4⟩, k⟩ => by
  subst e
  obtain ⟨u, us, rfl, r1, r2⟩ := r.un
  obtain ⟨u2, us2, rfl, r3, r4⟩ := r2.un
  obtain ⟨rfl, _⟩ := r1.un_lf
  obtain ⟨rfl, _⟩ := r3.un_lf
  rw [r4.un0]
  exact ⟨a, b, m, n, rfl, i, h3, h1, h2, fun d H' d0 d1 s kp => k _ _ (n + 1) G H' (h4 d d0 d1) (St.fr (G2 := G) x i o s kp) (.lf rfl)⟩
/-- a word -/
def wordW (a : Addr) : List D → Nat → (D → Nat → Prop) → Prop := fun ds n R => ds = [.leaf (.ref a)] ∧ n + 9 ≤ 1000000 ∧ ∀ x : Str, isW x = true → R (sD x) (n + 9)
theorem isW_lf {x : Str} (h : isW x = true) : leafy (.str x) = true := by
  unfold isW at h
  rw [Bool.and_eq_true, Bool.and_eq_true, decide_eq_true_eq] at h
  have h2 := of_decide_eq_true h.2.1
  exact decide_eq_true (by omega)
theorem subWord {a b : Addr} : ∀ vs H Q, spW (St a b) (wordW a) vs H Q E0 → spWord vs H Q E0 := fun vs H Q ⟨n, G, ds, R, x, i, o, r, ⟨e, h1, h2⟩, k⟩ => by
  subst e
  obtain ⟨u, us, rfl, r1, r2⟩ := r.un
  obtain ⟨rfl, _⟩ := r1.un_lf
  rw [r2.un0]
  exact ⟨a, b, n, rfl, i, h1, fun y H' hy s kp => k _ _ (n + 9) G H' (h2 y hy) (St.fr (G2 := G) x i o s kp) (.lf (isW_lf hy))⟩
end L2.K1

/-! isinstance(x, C), x perhaps an instance of another own class. -/
namespace L2.Tr
open PySem PySem.Spec PyProof.Rows
def isClsX (L : List Addr) (C0 : Addr) : D → Option Bool
  | .obj C ns ds => if C = C0 then some true else if C ∈ L then some false else none
  | d => isCls C0 d
theorem isT_clsX {K : PySem.W.Frag} {L : List Addr} {C0 : Addr} (h : OwnC K C0) (hL : ∀ C ∈ L, OwnC K C ∧ PySem.W.kitOne K (.ref C) (.ref C0) = some false) : IsT K (.ref C0) (isClsX L C0) := fun d b e H v r => by
  cases d with
  | obj C ns ds =>
    unfold isClsX at e
    simp only at e
    split at e
    · rename_i hC
      exact isT_cls h (.obj C ns ds) b (by unfold isCls; simp only; rw [if_pos hC]; exact e) H v r
    · split at e
      · rename_i hm
        cases e
        obtain ⟨a, dx, us, rfl, h1, _, _⟩ := r.un_obj
        exact ⟨_, .base ((hL C hm).1.ty h1), (hL C hm).2⟩
      · cases e
  | dct ks ds => exact isT_cls h (.dct ks ds) b e H v r
  | frz ks ds => exact isT_cls h (.frz ks ds) b e H v r
  | seq b' ds => exact isT_cls h (.seq b' ds) b e H v r
  | leaf x => exact isT_cls h (.leaf x) b e H v r
end L2.Tr

namespace L2.K1
open PySem PySem.Spec PyProof.Rows L2.Tr
noncomputable section
variable {P : Program} {w : World} {K : PySem.W.Frag} {mg : Str → Option Value} {base : Heap}
abbrev sAxes : Stmt := top 39
abbrev nAxes : List Str := ["columns", "steps", "told", "name", "free", "at", "values", "named", "step", "word"]
theorem scAxes : FnScope nAxes ["columns", "steps"] (defScope sAxes) := ⟨rfl, rfl, rfl, by decide +kernel, rfl, by decide +kernel, by decide +kernel⟩
def FAxes (K : PySem.W.Frag) (C a_NUMBERS a_OTHER_WORDS : Addr) : L2.Tr.Env → Option Out := (seqF (asgF (mapS (lcF [3] (seqsF (mapS (metFO C "names" (fNames C) (atP 0)))) (setF 3) yesF (metF C "told_values" (fTV C) (atP 0) (consD (atP 3) nilD)))) (setF 2)) (seqF (asgF (mapS (lcF [5, 6] (enumF (atP 2)) (tupT 2 (consT (setF 5) (consT (setF 6) nilT))) (asBF (bin2 (isN false) (atP 6) (kD (.leaf .non)))) (atP 5))) (setF 4)) (seqF (asgF (mapS (sortUD (mapS (lc2F [8, 9] [9] (seqsF (atP 1)) (setF 8) (andB (asBF (bin2 (scD false) (bin2 ixD (atP 8) (kD (.leaf (.int 0)))) (kD (.leaf (.str "in"))))) (asBF (bin2 (inD false) (bin2 ixD (atP 8) (kD (.leaf (.int 1)))) (atP 4)))) (seqsF (bin2 ixD (atP 8) (kD (.leaf (.int 2))))) (setF 9) yesF (atP 9))))) (setF 7)) (retF (bin2 addD (mapS (lcF [6] (seqsF (atP 2)) (setF 6) yesF (ifF (asBF (bin2 (isN false) (atP 6) (kD (.leaf .non)))) (tupDisp (starD (atP 7) (starK K (kD (.leaf (.ref a_OTHER_WORDS))) nilD))) (atP 6)))) (mapS (lstDisp (consD (kD (.leaf (.ref a_NUMBERS))) nilD))))))))
def fAxes (K : PySem.W.Frag) (C a_NUMBERS a_OTHER_WORDS : Addr) (ds : List D) : Option D := if ds.length = (["columns", "steps"] : List Str).length then runF nAxes.length (FAxes K C a_NUMBERS a_OTHER_WORDS ) ds else none
theorem okAxes {f : Addr} {fd : FuncData} (C a_NUMBERS a_OTHER_WORDS : Addr) (F : Fun K "_axes" "_axes" sAxes f fd) (B : TxB2 mg) (mT : Mth P w K mg base C "told_values" 2 (fTV C)) (mN : MthO P w K mg base C "names" 1 (fNames C)) (G_NUMBERS : mg "NUMBERS" = some (.ref a_NUMBERS)) (G_OTHER_WORDS : mg "OTHER_WORDS" = some (.ref a_OTHER_WORDS)) : FnOk P w K mg base CX0 3 f fd ["columns", "steps"] (spP (fAxes K C a_NUMBERS a_OTHER_WORDS )) :=
  ok_def (N := nAxes) (Φ := FAxes K C a_NUMBERS a_OTHER_WORDS ) F scAxes fun cdv A outer s H E hr => ⟨_, (ss_cons (sd_set (OwD.pu (LcD.ow (lc0 [("name", 3)] (it_seq (OwD.pu (ow_meth0 mN (hr.mono (by first | decide | omega)) (pu_var (pv 0))))) (blkOk_by (N := nAxes) (sc := defScope sAxes) (by decide +kernel)) (fun _ _ _ _ _ => (tg_name (pg_name (i := 3) scAxes.nd rfl (Or.inl rfl)))) (fun _ _ _ _ _ => (tw_name (by decide))) (fun _ _ _ _ _ => (pu_meth mT (hr.mono (by first | decide | omega)) (pu_var (pv 0)) (ar_cons (pu_var (pv 3)) ar_nil)))) rfl scAxes.nd)) (LcD.set (i := 2) (lc0 [("name", 3)] (it_seq (OwD.pu (ow_meth0 mN (hr.mono (by first | decide | omega)) (pu_var (pv 0))))) (blkOk_by (N := nAxes) (sc := defScope sAxes) (by decide +kernel)) (fun _ _ _ _ _ => (tg_name (pg_name (i := 3) scAxes.nd rfl (Or.inl rfl)))) (fun _ _ _ _ _ => (tw_name (by decide))) (fun _ _ _ _ _ => (pu_meth mT (hr.mono (by first | decide | omega)) (pu_var (pv 0)) (ar_cons (pu_var (pv 3)) ar_nil)))) rfl scAxes.nd rfl rfl (sw_true rfl rfl rfl (by decide +kernel)))) (ss_cons (sd_nm (OwD.pu (LcD.ow (lcI [("at", 5), ("values", 6)] (it_enum (pu_var (pv 2)) (by rfl) B.z_enumerate) (blkOk_by (N := nAxes) (sc := defScope sAxes) (by decide +kernel)) (fun _ _ _ _ _ => (tg_tup rfl (tgs_cons (tg_name (pg_name (i := 5) scAxes.nd rfl (Or.inl rfl))) (tgs_cons (tg_name (pg_name (i := 6) scAxes.nd rfl (Or.inl rfl))) tgs_nil)))) (fun _ _ _ _ _ => (tw_tup (tws_cons mono_nm (tw_name (by decide)) (tws_cons mono_nm (tw_name (by decide)) tws_nil)))) (fun _ _ _ _ _ => (te_cmp op_isN r2_isN (nomark _) (PuD.vi (pu_var (pv 6))) (PuD.vi (pu_c pe_non rfl)))) (fun _ _ _ _ _ => (pu_var (pv 5)))) rfl scAxes.nd)) (fun h => ps_set (i := 4) scAxes.nd rfl (by first | exact Or.inl rfl | exact Or.inr rfl) h)) (ss_cons (sd_nm (OwD.pu (ow_sortU rfl (by rfl) B.z_sorted (by rfl) B.z_set (OwD.pu (lcI2 [("step", 8), ("word", 9)] [9] (it_seq (pu_var (pv 1))) (blkOk_by (N := nAxes) (sc := defScope sAxes) (by decide +kernel)) (by decide) (fun _ _ _ _ _ => (tg_name (pg_name (i := 8) scAxes.nd rfl (Or.inl rfl)))) (fun _ _ _ _ _ => (tw_name (by decide))) (fun _ _ _ _ _ => (TwD.te (tw_and (te_cmp op_eq r2_eqS (nomark _) (PuD.vi (pu_ix (PuD.vi (pu_var (pv 8))) (PuD.vi (pu_c pe_int rfl)) (fun _ _ => rfl))) (PuD.vi (pu_c pe_str (by decide +kernel)))) (tw_and1 (te_cmp op_in_seq r2_in (by with_unfolding_all rfl) (PuD.vi (pu_ix (PuD.vi (pu_var (pv 8))) (PuD.vi (pu_c pe_int rfl)) (fun _ _ => rfl))) (PuD.vi (pu_var (pv 4)))))))) (fun _ _ _ _ _ => (it_seq (pu_ix (PuD.vi (pu_var (pv 8))) (PuD.vi (pu_c pe_int rfl)) (fun _ _ => rfl)))) (fun _ _ _ _ _ => (tg_name (pg_name (i := 9) scAxes.nd rfl (Or.inl rfl)))) (fun _ _ _ _ _ => (tw_name (by decide))) (fun _ _ _ _ _ => (pu_var (pv 9))) rfl scAxes.nd)))) (fun h => ps_set (i := 7) scAxes.nd rfl (by first | exact Or.inl rfl | exact Or.inr rfl) h)) (ss_one (sd_ret (pu_add (PuD.vi (OwD.pu (LcD.ow (lc0 [("values", 6)] (it_seq (pu_var (pv 2))) (blkOk_by (N := nAxes) (sc := defScope sAxes) (by decide +kernel)) (fun _ _ _ _ _ => (tg_name (pg_name (i := 6) scAxes.nd rfl (Or.inl rfl)))) (fun _ _ _ _ _ => (tw_name (by decide))) (fun _ _ _ _ _ => (pu_if (te_cmp op_isN r2_isN (nomark _) (PuD.vi (pu_var (pv 6))) (PuD.vi (pu_c pe_non rfl))) (pu_tup (ar_star (pu_var (pv 7)) (ar_starK (pu_c (pe_glob (v := .ref a_OTHER_WORDS) (by rfl) G_OTHER_WORDS rfl) rfl) ar_nil))) (pu_var (pv 6))))) rfl scAxes.nd))) (PuD.vi (OwD.pu (ow_lst (ar_cons (pu_c (pe_glob (v := .ref a_NUMBERS) (by rfl) G_NUMBERS rfl) rfl) ar_nil))))))))))⟩
abbrev sBoth : Stmt := top 38
abbrev nBoth : List Str := ["one", "other", "axes"]
theorem scBoth : FnScope nBoth ["one", "other"] (defScope sBoth) := ⟨rfl, rfl, rfl, by decide +kernel, rfl, by decide +kernel, by decide +kernel⟩
def FBoth (C C3 : Addr) (gAx gE gFd : List D → Option D) : L2.Tr.Env → Option Out := (seqF (ifS (asBF (bin2 (eqOD true C gE) (fldF C3 "columns" (atP 0)) (fldF C3 "columns" (atP 1)))) neverF skipF) (seqF (asgF (app1 gAx (consD (fldF C3 "columns" (atP 0)) (consD (tupDisp (starD (fldF C3 "steps" (atP 0)) (starD (fldF C3 "steps" (atP 1)) nilD))) nilD))) (setF 2)) (retF (tupDisp (consD (metF C3 "found" gFd (atP 0) (consD (atP 2) nilD)) (consD (metF C3 "found" gFd (atP 1) (consD (atP 2) nilD)) nilD))))))
def fBoth (C C3 : Addr) (gAx gE gFd : List D → Option D) (ds : List D) : Option D := if ds.length = (["one", "other"] : List Str).length then runF nBoth.length (FBoth C C3 gAx gE gFd ) ds else none
theorem okBoth {f : Addr} {fd : FuncData} (C C3 : Addr) (gAx gE gFd : List D → Option D) (F : Fun K "_found_by_both" "_found_by_both" sBoth f fd) (B : TxB2 mg) (clL : Cls K C3) (m1 : NoAttr K C3 "columns") (m2 : NoAttr K C3 "steps") (hAx : Fn P w K mg base "_axes" 3 2 gAx) (mE : Eqr P w K mg base C 1 gE) (mF : Mth P w K mg base C3 "found" 3 gFd) : FnOk P w K mg base CX0 4 f fd ["one", "other"] (spP (fBoth C C3 gAx gE gFd )) :=
  ok_def (N := nBoth) (Φ := FBoth C C3 gAx gE gFd ) F scBoth fun cdv A outer s H E hr => ⟨_, (ss_cons (sd_if (te_cmp (eqr_ne mE (hr.mono (by first | decide | omega))) r2_eqO (nomark _) (PuD.vi (pu_fld clL m1 (PuD.vi (pu_var (pv 0))))) (PuD.vi (pu_fld clL m1 (PuD.vi (pu_var (pv 1)))))) (ss_one sd_never) ss_nil) (ss_cons (sd_nm (pu_call hAx (hr.mono (by first | decide | omega)) (by rfl) (ar_cons (pu_fld clL m1 (PuD.vi (pu_var (pv 0)))) (ar_cons (pu_tup (ar_star (pu_fld clL m2 (PuD.vi (pu_var (pv 0)))) (ar_star (pu_fld clL m2 (PuD.vi (pu_var (pv 1)))) ar_nil))) ar_nil))) (fun h => ps_set (i := 2) scBoth.nd rfl (by first | exact Or.inl rfl | exact Or.inr rfl) h)) (ss_one (sd_ret (pu_tup (ar_cons (pu_meth mF (hr.mono (by first | decide | omega)) (pu_var (pv 0)) (ar_cons (pu_var (pv 2)) ar_nil)) (ar_cons (pu_meth mF (hr.mono (by first | decide | omega)) (pu_var (pv 1)) (ar_cons (pu_var (pv 2)) ar_nil)) ar_nil)))))))⟩
abbrev sAlike : Stmt := top 37
abbrev nAlike : List Str := ["one", "other", "mine", "others"]
theorem scAlike : FnScope nAlike ["one", "other"] (defScope sAlike) := ⟨rfl, rfl, rfl, by decide +kernel, rfl, by decide +kernel, by decide +kernel⟩
def FAlike (gB : List D → Option D) : L2.Tr.Env → Option Out := (seqF (asgF (app1 gB (consD (atP 0) (consD (atP 1) nilD))) (tupT 2 (consT (setF 2) (consT (setF 3) nilT)))) (retF (bin2 (scD false) (atP 2) (atP 3))))
def fAlike (gB : List D → Option D) (ds : List D) : Option D := if ds.length = (["one", "other"] : List Str).length then runF nAlike.length (FAlike gB ) ds else none
theorem okAlike {f : Addr} {fd : FuncData} (gB : List D → Option D) (F : Fun K "_find_alike" "_find_alike" sAlike f fd) (B : TxB2 mg) (hB : Fn P w K mg base "_found_by_both" 4 2 gB) : FnOk P w K mg base CX0 5 f fd ["one", "other"] (spP (fAlike gB )) :=
  ok_def (N := nAlike) (Φ := FAlike gB ) F scAlike fun cdv A outer s H E hr => ⟨_, (ss_cons (sd_asg (pu_call hB (hr.mono (by first | decide | omega)) (by rfl) (ar_cons (pu_var (pv 0)) (ar_cons (pu_var (pv 1)) ar_nil))) (tg_tup rfl (tgs_cons (tg_name (pg_name (i := 2) scAlike.nd rfl (by first | exact Or.inl rfl | exact Or.inr rfl))) (tgs_cons (tg_name (pg_name (i := 3) scAlike.nd rfl (by first | exact Or.inl rfl | exact Or.inr rfl))) tgs_nil)))) (ss_one (sd_ret (pu_cmp op_eq r2_eqS (nomark _) (PuD.vi (pu_var (pv 2))) (PuD.vi (pu_var (pv 3)))))))⟩
abbrev sLEq : Stmt := inClass (top 32) 8
abbrev nLEq : List Str := ["self", "other"]
theorem scLEq : FnScope nLEq ["self", "other"] (defScope sLEq) := ⟨rfl, rfl, rfl, by decide +kernel, rfl, by decide +kernel, by decide +kernel⟩
def FLEq (C C3 : Addr) (gE gFA : List D → Option D) : L2.Tr.Env → Option Out := (retF (andF (isF (isClsX [C] C3) (atP 1)) (andF (bin2 (eqOD false C gE) (fldF C3 "columns" (atP 0)) (fldF C3 "columns" (atP 1))) (app1 gFA (consD (atP 0) (consD (atP 1) nilD))))))
def fLEq (C C3 : Addr) (gE gFA : List D → Option D) (ds : List D) : Option D := if ds.length = (["self", "other"] : List Str).length then runF nLEq.length (FLEq C C3 gE gFA ) ds else none
theorem okLEq {f : Addr} {fd : FuncData} (C C3 : Addr) (gE gFA : List D → Option D) (F : Fun K "__eq__" "Look.__eq__" sLEq f fd) (B : TxB2 mg) (clL : Cls K C3) (m1 : NoAttr K C3 "columns") (m2 : NoAttr K C3 "steps") (ocL : OwnC K C3) (oX : ∀ C2 ∈ [C], OwnC K C2 ∧ PySem.W.kitOne K (.ref C2) (.ref C3) = some false) (G_Look : mg "Look" = some (.ref C3)) (mE : Eqr P w K mg base C 1 gE) (hFA : Fn P w K mg base "_find_alike" 5 2 gFA) : FnOk P w K mg base CX0 6 f fd ["self", "other"] (spP (fLEq C C3 gE gFA )) :=
  ok_def (N := nLEq) (Φ := FLEq C C3 gE gFA ) F scLEq fun cdv A outer s H E hr => ⟨_, (ss_one (sd_ret (pu_andT (pu_isiC (isT_clsX ocL oX) (by rfl) B.z_isinstance (by decide +kernel) (PuD.vi (pu_var (pv 1))) (pe_glob (by rfl) G_Look rfl)) (pu_andT (pu_cmp (eqr_eq mE (hr.mono (by first | decide | omega))) r2_eqO (nomark _) (PuD.vi (pu_fld clL m1 (PuD.vi (pu_var (pv 0))))) (PuD.vi (pu_fld clL m1 (PuD.vi (pu_var (pv 1)))))) (pu_one (pu_call hFA (hr.mono (by first | decide | omega)) (by rfl) (ar_cons (pu_var (pv 0)) (ar_cons (pu_var (pv 1)) ar_nil))))))))⟩
end
end L2.K1

namespace Vx
open PySem PySem.W PySem.Calls PyProof.Rows PySem.HandSPX
section
variable {M : Model} {prog : Program} {w : World} {A : Around} {E : Value → Shared → Prop} {R : Result → Shared → Prop} {hp : Heap} {gs : Array GenState} {dr : Drawn} {tk : Nat} {os : OsState}
variable {nm qn : Str} {C N : Addr} {bs bm bmB : List Value} {hdct : Bool} {sn : List Str} {sub : List Value} {ab : Bool} {col : Option Bool} {dd : Option Addr} {k0 k1 k2 k3 k5 : Option Value} {B newId initId : String}

/-! Trees beside something that changes: own errors are raised. -/
namespace L2.Tr
open PySem PySem.Spec PyProof.Rows L2.Vx
/-! Readings that may raise: beside trees and what changes. -/
namespace L2.Tr
open PySem PySem.Spec PyProof.Rows
/-! Lambdas without parameters, handed to a def that calls them once. -/
namespace L2.Tr
open PySem PySem.Spec PyProof.Rows
open LamX (CodeO TabS TabB LamS lamEnv lamCx)
/-! ### tables of code objects beside what changes -/
/-! A lambda is made. -/
namespace L2.Tr
open PySem PySem.Spec PyProof.Rows
open LamX (CodeO TabS TabB LamS lamEnv lamCx)
/-! A lambda handed to a def, on trees. -/
namespace L2.Tr
open PySem PySem.Spec PyProof.Rows
open LamX (CodeO TabS TabB LamS lamEnv lamCx)
section
variable {τ : Type} {Ω : Om τ}
/-! try .. except x, on trees. -/
namespace L2.Tr
open PySem PySem.Spec PyProof.Rows
section
variable {τ : Type} {Ω : Om τ} {Υ : Hi Ω} {X : Cx} {Wo : WX}
/-! Defs whose code object is known (they make lambdas); == with instances of other classes. -/
namespace L2.Tr
open PySem PySem.Spec PyProof.Rows
open LamX (CodeO TabS TabB LamS lamEnv lamCx)
section
variable {τ : Type}
end
/-! == and != with instances of other classes, too -/
section
variable {X : Cx} {K : PySem.W.Frag} {C f : Addr} {k : Nat} {fd : FuncData} {ps : List Str} {sp : Sp}
def OtherX (K : PySem.W.Frag) (C : Addr) (H : Hp) (y : V) : Prop := Other K C H y ∨ ∃ b C2 dy gs, y = .ref b ∧ H b = some (.ins C2 dy gs) ∧ PySem.W.notFirst K C (.ref C2) = true
def rEqX (K : PySem.W.Frag) (C : Addr) (sp : Sp) (neg : Bool) : R2 := fun x y H Q => ∃ a dx fs, x = .ref a ∧ H a = some (.ins C dx fs) ∧ OtherX K C H y ∧ sp [x, y] H (fun v H' => ∃ b : Bool, v = .bl b ∧ Q (.bl (xor neg b)) H') E0
theorem otherX_looks {pins : List (Addr × Obj)} {σ : St} {H : Hp} {s : Shared} (I : Inv X pins σ H s) {y : V} {u : Value} (ry : RelV y u) (h : OtherX X.K C H y) : ∃ tb, PySem.W.Looks (model X.prog X.w) s.heap (typeOf u) tb ∧ PySem.W.notFirst X.K C tb = true := by
  rcases h with h | ⟨b, C2, dy, gs, rfl, hb, hn⟩
  · exact other_looks I ry h
  · obtain rfl : u = Value.ref b := ry
    obtain ⟨mB, J, _⟩ := ins_get I.hok hb
    obtain ⟨od, J, _⟩ := J.look
    exact ⟨.ref C2, J.type, hn⟩
theorem op_eqX (F : FnOk X.prog X.w X.K X.mg X.base CX0 k f fd ps sp) (hr : Room k X.A) (O : EqC X.K C f) (hb : Binds X.K fd ps []) : OpR X (compareOp .Eq) (rEqX X.K C sp false) := by
  intro pins s σ H x y v u Q I rx ry h
  obtain ⟨a, dx, fs, rfl, ha, ho, q⟩ := h
  obtain rfl : v = Value.ref a := rx
  obtain ⟨mA, J, _⟩ := ins_get I.hok ha
  obtain ⟨od, J, _⟩ := J.look
  obtain ⟨m, fr⟩ := I.fr
  obtain ⟨tb, lk, hn⟩ := otherX_looks I ry ho
  show wpAny _ _ (richCompare .Eq (.ref a) u) _ _ _
  refine PySem.W.cmp_K (op := .Eq) hr.units0 fr I.ok.mod.kin J lk hn O.eq O.fn ?_
  refine thn (run_fn (dvs := []) (ds := []) F hr hb .nil pass0 I (show Vals [V.ref a, y] [Value.ref a, u] from .cons (show RelV (V.ref a) (Value.ref a) from rfl) (.cons ry .nil)) q) fun u' s1 hq => ?_
  obtain ⟨z, H', I', rz, b, ez, hq⟩ := hq
  subst ez
  obtain rfl : u' = Value.bool b := rz
  exact ⟨.bl b, H', I', rfl, by rwa [Bool.false_xor] at hq⟩
def okOtherX (L : List Addr) (C0 : Addr) : D → Bool
  | .obj C ns ds => decide (C ∈ L) || okOther C0 (.obj C ns ds)
  | d => okOther C0 d
theorem otherX_ok {L : List Addr} {C0 : Addr} (hL : ∀ C ∈ L, PySem.W.notFirst K C0 (.ref C) = true) {d : D} (h : okOtherX L C0 d = true) {H : Hp} {v : V} (r : Rep H d v) : OtherX K C0 H v := by
  cases d with
  | obj C ns ds =>
    rcases Bool.or_eq_true_iff.mp h with h | h
    · obtain ⟨b, dy, us, rfl, h1, _⟩ := r.un_obj
      exact .inr ⟨b, C, dy, _, rfl, h1, hL C (of_decide_eq_true h)⟩
    · exact .inl (other_ok (C0 := C0) (by simpa [okOtherX] using h) r)
  | leaf v => exact .inl (other_ok (C0 := C0) (by simpa [okOtherX] using h) r)
  | seq b ds => exact .inl (other_ok (C0 := C0) (by simpa [okOtherX] using h) r)
  | dct ks ds => exact .inl (other_ok (C0 := C0) (by simpa [okOtherX] using h) r)
  | frz ks ds => exact .inl (other_ok (C0 := C0) (by simpa [okOtherX] using h) r)
theorem eqr_eqX {C0 : Addr} {g : List D → Option D} (h : Eqr X.prog X.w X.K X.mg X.base C0 k g) (hr : Room k X.A) : OpR X (compareOp .Eq) (rEqX X.K C0 (spP g) false) := by
  obtain ⟨a, fd, ps, h1, h2, h3⟩ := h.ex
  exact op_eqX h2 hr h1 h3
def eqOX (L : List Addr) (neg : Bool) (C0 : Addr) (g : List D → Option D) : D → D → Option D := fun x y => match x with
  | .obj C _ _ => if C = C0 ∧ okOtherX L C0 y = true then ((g [x, y]).bind asB).map fun b => bD (xor neg b) else none
  | _ => none
theorem r2_eqOX {L : List Addr} {neg : Bool} {C0 : Addr} {g : List D → Option D} (hL : ∀ C ∈ L, PySem.W.notFirst K C0 (.ref C) = true) : R2D (rEqX K C0 (spP g) neg) (eqOX L neg C0 g) := fun d1 d2 z e G H v1 v2 x r1 r2 Q k => by
  unfold eqOX at e
  split at e
  · rename_i C ns ds
    split at e
    · rename_i hC
      obtain ⟨rfl, ho⟩ := hC
      obtain ⟨b, e1, rfl⟩ := Option.map_eq_some_iff.mp e
      obtain ⟨db, e2, e3⟩ := Option.bind_eq_some_iff.mp e1
      have rr := r1.rep x
      obtain ⟨p, dx, us, rfl, h1, h2, h3⟩ := r1.obj x
      refine ⟨p, dx, _, rfl, h1, otherX_ok hL ho (r2.rep x), H, _, db, Ex.refl _, .cons rr (.cons (r2.rep x) .nil), e2, fun v G2 H2 f2 r => ?_⟩
      unfold asB at e3
      split at e3
      · cases e3
        obtain ⟨rfl, _⟩ := r.un_lf
        exact ⟨b, rfl, k _ G H2 (.of x (f2.g.trans f2.gh)) (.lf rfl)⟩
      · cases e3
    · cases e
  · cases e
theorem cmpO {op : CmpOp} {C0 : Addr} {g : List D → Option D} (h : BinO X.prog X.w X.K X.mg X.base C0 (cmpInfo op).2.1 k g) (hr : Room k X.A) (hop : ∀ x y, compareOp op x y = richCompare op x y) : OpR X (compareOp op) (rOwnX C0 (spP g) E0) := by
  obtain ⟨fa, fd, ps, O, F, B⟩ := h.ex
  exact cmp_ownX F pass0 hr O B hop
end
end L2.Tr

/-! != with instances of other classes. -/
namespace L2.Tr
open PySem PySem.Spec PyProof.Rows
section
variable {X : Cx} {C f : Addr} {k : Nat} {fd : FuncData} {ps : List Str} {sp : Sp}
theorem op_neX (F : FnOk X.prog X.w X.K X.mg X.base CX0 k f fd ps sp) (hr : Room (k + 1) X.A) (O : EqC X.K C f) (hb : Binds X.K fd ps []) : OpR X (compareOp .NotEq) (rEqX X.K C sp true) := by
  intro pins s σ H x y v u Q I rx ry h
  obtain ⟨a, dx, fs, rfl, ha, ho, q⟩ := h
  obtain rfl : v = Value.ref a := rx
  obtain ⟨mA, J, _⟩ := ins_get I.hok ha
  obtain ⟨od, J, _⟩ := J.look
  obtain ⟨tb, lk, hn⟩ := otherX_looks I ry ho
  show wpAny _ _ (richCompare .NotEq (.ref a) u) _ _ _
  refine OwC.ne_K hr.in1.units0 hr.units0 I.kIn J lk hn O.ob O.ne O.eq O.fn ?_
  have hl := F.len _ _ _ _ q
  have r2 : Vals [V.ref a, y] [Value.ref a, u] := .cons (show RelV (V.ref a) (Value.ref a) from rfl) (.cons ry .nil)
  refine wpAny_call (codeAny_mono (F.run X.A.in1 X.stack s H ⟨[.ref a, u], []⟩ [.ref a, u] [.ref a, y] _ E0 hr.in1 I.env0.in1 (by
    have := hb s [.ref a, u] I.kIn (by simpa using hl)
    simpa using this) r2 q) fun r s' hq => ?_)
  cases r with
  | error e => exact (show False from hq).elim
  | ok fl =>
    cases fl with
    | ret w' =>
      obtain ⟨z, H', I', rz, b, ez, hq2⟩ := I.after hq
      subst ez
      obtain rfl : w' = Value.bool b := rz
      exact ⟨b, rfl, .bl (!b), H', I', rfl, by rwa [Bool.true_xor] at hq2⟩
    | next => exact False.elim hq
    | brk => exact False.elim hq
    | cont => exact False.elim hq
theorem eqr_neX {C0 : Addr} {g : List D → Option D} (h : Eqr X.prog X.w X.K X.mg X.base C0 k g) (hr : Room (k + 1) X.A) : OpR X (compareOp .NotEq) (rEqX X.K C0 (spP g) true) := by
  obtain ⟨a, fd, ps, h1, h2, h3⟩ := h.ex
  exact op_neX h2 hr h1 h3
end
end L2.Tr

/-! Tuples of the module as defaults (isinstance, tuple, enumerate), list.count of a number, two for with a test behind, isinstance with a tuple of own classes, a def that hands back a new list behind other statements. -/
namespace L2.Tr
open PySem PySem.Spec PyProof.Rows
noncomputable def isSeqK (K : PySem.W.Frag) : D → Option Bool
  | .leaf (.ref a) => (ktup K a).map fun _ => true
  | d => isSeq d
theorem isTs_seqK {K : PySem.W.Frag} : IsTs K [.type "list", .type "tuple"] (isSeqK K) := fun d b e H v r => by
  cases d with
  | leaf x =>
    cases x with
    | ref a =>
      obtain ⟨vs, h1, h2⟩ := Option.map_eq_some_iff.mp (show (ktup K a).map _ = some b from e)
      obtain ⟨rfl, _⟩ := r.un_lf
      obtain ⟨o, its, n, k1, k2, _⟩ := (ktup_un h1).k
      cases h2
      exact ⟨_, .kTuple k1 k2, kitAny2 (r := false) (q := true) (by decide +kernel) (by decide +kernel)⟩
    | _ => exact isTs_seq _ b (by exact e) H v r
  | _ => exact isTs_seq _ b (by exact e) H v r
noncomputable def tupKD (K : PySem.W.Frag) : List D → Option D
  | [.leaf (.ref a)] => (ktup K a).map fun _ => .leaf (.ref a)
  | _ => none
theorem r1_tupK {K : PySem.W.Frag} : R1D (fun xs H Q => ∃ p ys, xs = [.ref p] ∧ ((SqL K H p ys ∧ ∀ l, H l = none → Q (.ref l) (upd H l (.tup ys))) ∨ (SqT K H p ys ∧ Q (.ref p) H))) (tupKD K) := fun ds z e G H vs x r1 Q k => by
  unfold tupKD at e
  split at e
  · rename_i a
    obtain ⟨ws, h, rfl⟩ := Option.map_eq_some_iff.mp e
    obtain ⟨v, rfl, r⟩ := views1 r1
    obtain ⟨rfl, _⟩ := r.lf
    exact ⟨_, ws, rfl, .inr ⟨(ktup_un h).sq H, k _ G H (.refl x) (.lf rfl)⟩⟩
  · cases e
noncomputable abbrev tupA (K : PySem.W.Frag) : List D → Option D := fun x => (tupD x).or (tupKD K x)
section
variable {X : Cx} {e o : Expr} {to t : TE} {φ φa φb : Env → Option D} {apos pos : Pos} {es : List Expr} {tr : TA} {ψ : Env → Option (List D)}
/-! list.count of a number -/
def intsOfL : List D → Option (List Int)
  | [] => some []
  | .leaf (.int i) :: r => (intsOfL r).map (i :: ·)
  | _ => none
def countD : D → D → Option D
  | .seq true ds, .leaf (.int k) => (intsOfL ds).map fun ns => .leaf (.int (ns.count k : Nat))
  | _, _ => none
/-! isinstance with a tuple of own classes -/
inductive TyArgsC (X : Cx) : List Expr → TA → List V → List Value → Prop where
  | nil : TyArgsC X [] tNil [] []
  | cons {e : Expr} {es : List Expr} {tr : TA} {C : Addr} {vs : List V} {us : List Value} (h : PE X e (tC (.ref C))) (r : TyArgsC X es tr vs us) (hs : starEach (e :: es) X.env = (false, eval e X.env) :: starEach es X.env) : TyArgsC X (e :: es) (tCons (tC (.ref C)) tr) (.ref C :: vs) (.ref C :: us)
theorem TyArgsC.pa {es : List Expr} {tr : TA} {vs : List V} {us : List Value} (h : TyArgsC X es tr vs us) : PA X es tr := by
  induction h with
  | nil => exact pa_nil
  | cons h r hs ih => exact pa_cons h ih hs
theorem TyArgsC.ev {es : List Expr} {tr : TA} {vs : List V} {us : List Value} (h : TyArgsC X es tr vs us) : ∀ (σ : St) (H : Hp) (Q : List V → Hp → Prop), Q vs H → tr σ H Q := by
  induction h with
  | nil => intro σ H Q q; exact q
  | cons h r hs ih => intro σ H Q q; exact ih σ H _ q
theorem TyArgsC.cls {es : List Expr} {tr : TA} {vs : List V} {us : List Value} (h : TyArgsC X es tr vs us) : Paired ClsV vs us := by
  induction h with
  | nil => exact .nil
  | cons h r hs ih => exact .cons (.own _) ih
/-! Trees: comprehensions over d.items(), d.values(), d: the dict is locked while they run; what else holds it shows it locked. -/
namespace L2.Tr
open PySem PySem.Spec PyProof.Rows
mutual
/-- the same, some dicts locked -/
inductive LkD : D → D → Prop where
  | leaf (v : V) : LkD (.leaf v) (.leaf v)
  | seq (b : Bool) {ds es : List D} (h : LkDs ds es) : LkD (.seq b ds) (.seq b es)
  | obj (C : Addr) (ns : List Str) {ds es : List D} (h : LkDs ds es) : LkD (.obj C ns ds) (.obj C ns es)
  | dct (ks : List Key) {ds es : List D} (h : LkDs ds es) : LkD (.dct ks ds) (.dct ks es)
  | dfz (ks : List Key) {ds es : List D} (h : LkDs ds es) : LkD (.dct ks ds) (.frz ks es)
  | frz (ks : List Key) {ds es : List D} (h : LkDs ds es) : LkD (.frz ks ds) (.frz ks es)
inductive LkDs : List D → List D → Prop where
  | nil : LkDs [] []
  | cons {d e : D} {ds es : List D} (h : LkD d e) (t : LkDs ds es) : LkDs (d :: ds) (e :: es)
end
theorem LkDs.len : ∀ {ds es : List D}, LkDs ds es → ds.length = es.length
  | _, _, .nil => rfl
  | _, _, .cons _ t => by rw [List.length_cons, List.length_cons, t.len]
mutual
theorem LkD.refl : ∀ d : D, LkD d d
  | .leaf v => .leaf v
  | .seq b ds => .seq b (LkDs.refl ds)
  | .obj C ns ds => .obj C ns (LkDs.refl ds)
  | .dct ks ds => .dct ks (LkDs.refl ds)
  | .frz ks ds => .frz ks (LkDs.refl ds)
theorem LkDs.refl : ∀ ds : List D, LkDs ds ds
  | [] => .nil
  | d :: ds => .cons (LkD.refl d) (LkDs.refl ds)
end
mutual
/-- what is plain stays as it is -/
theorem LkD.plain : ∀ {d e : D}, LkD d e → plainD d = true → e = d
  | _, _, .leaf v, _ => rfl
  | _, _, .seq b h, p => by
    rw [LkDs.plain h (by simpa [plainD] using p)]
  | _, _, .obj C ns h, p => by simp [plainD] at p
  | _, _, .dct ks h, p => by simp [plainD] at p
  | _, _, .dfz ks h, p => by simp [plainD] at p
  | _, _, .frz ks h, p => by simp [plainD] at p
theorem LkDs.plain : ∀ {ds es : List D}, LkDs ds es → plainDs ds = true → es = ds
  | _, _, .nil, _ => rfl
  | d :: ds, e :: es, .cons h t, p => by
    have p' : plainD d = true ∧ plainDs ds = true := by simpa [plainDs] using p
    rw [LkD.plain h p'.1, LkDs.plain t p'.2]
end
mutual
theorem Rep.lock {G : Hp} {dd : Addr} {od : Obj} {kvs : List (Key × V)} (hd : G dd = some (.dK kvs)) : ∀ {d : D} {v : V}, Rep G d v → ∃ d', LkD d d' ∧ Rep (upd G dd (.frz od (.dK kvs))) d' v
  | .leaf x, v, h => ⟨_, .leaf x, by unfold Rep at h ⊢; exact h⟩
  | .seq b ds, v, h => by
    unfold Rep at h
    obtain ⟨a, us, rfl, h2, h3, h4⟩ := h
    have na : a ≠ dd := fun e => by rw [e, hd] at h2; cases b <;> cases h2
    obtain ⟨es, l, r⟩ := Reps.lock (od := od) hd h4
    exact ⟨.seq b es, .seq b l, .sq (by rw [upd_ne na]; exact h2) (by rw [← l.len]; exact h3) r⟩
  | .obj C ns ds, v, h => by
    unfold Rep at h
    obtain ⟨a, dx, us, rfl, h2, h3, h4⟩ := h
    have na : a ≠ dd := fun e => by rw [e, hd] at h2; cases h2
    obtain ⟨es, l, r⟩ := Reps.lock (od := od) hd h4
    exact ⟨.obj C ns es, .obj C ns l, .ob (by rw [upd_ne na]; exact h2) (by rw [← l.len]; exact h3) r⟩
  | .dct ks ds, v, h => by
    unfold Rep at h
    obtain ⟨a, us, rfl, h2, h3, h3', h4⟩ := h
    obtain ⟨es, l, r⟩ := Reps.lock (od := od) hd h4
    by_cases e : a = dd
    · subst e
      rw [hd] at h2
      cases h2
      exact ⟨.frz ks es, .dfz ks l, .fz upd_same (by rw [← l.len]; exact h3) (by rw [← l.len]; exact h3') r⟩
    · exact ⟨.dct ks es, .dct ks l, .dc (by rw [upd_ne e]; exact h2) (by rw [← l.len]; exact h3) (by rw [← l.len]; exact h3') r⟩
  | .frz ks ds, v, h => by
    unfold Rep at h
    obtain ⟨a, us, o, rfl, h2, h3, h3', h4⟩ := h
    have na : a ≠ dd := fun e => by rw [e, hd] at h2; cases h2
    obtain ⟨es, l, r⟩ := Reps.lock (od := od) hd h4
    exact ⟨.frz ks es, .frz ks l, .fz (by rw [upd_ne na]; exact h2) (by rw [← l.len]; exact h3) (by rw [← l.len]; exact h3') r⟩
theorem Reps.lock {G : Hp} {dd : Addr} {od : Obj} {kvs : List (Key × V)} (hd : G dd = some (.dK kvs)) : ∀ {ds : List D} {us : List V}, Reps G ds us → ∃ es, LkDs ds es ∧ Reps (upd G dd (.frz od (.dK kvs))) es us
  | [], us, h => ⟨[], .nil, by unfold Reps at h ⊢; exact h⟩
  | d :: ds, us, h => by
    unfold Reps at h
    obtain ⟨u, r, rfl, h2, h3⟩ := h
    obtain ⟨e, l1, r1⟩ := Rep.lock (od := od) hd h2
    obtain ⟨es, l2, r2⟩ := Reps.lock (od := od) hd h3
    exact ⟨e :: es, .cons l1 l2, .cons r1 r2⟩
end
/-- slots: own things are out of sight -/
inductive LkSl : Sl → Sl → Prop where
  | un : LkSl .un .un
  | ow (d : D) : LkSl (.ow d) .un
  | pu {d e : D} (h : LkD d e) : LkSl (.pu d) (.pu e)
theorem ex_list {α : Type} {P : Nat → α → Prop} : ∀ n, (∀ i, i < n → ∃ x, P i x) → ∃ l : List α, l.length = n ∧ ∀ i x, l[i]? = some x → P i x
  | 0, _ => ⟨[], rfl, by simp⟩
  | n + 1, h => by
    obtain ⟨l, h1, h2⟩ := ex_list n fun i hi => h i (by omega)
    obtain ⟨x, hx⟩ := h n (by omega)
    refine ⟨l ++ [x], by simp [h1], fun i y e => ?_⟩
    by_cases hi : i < l.length
    · rw [List.getElem?_append_left hi] at e; exact h2 i y e
    · have hlt := (List.getElem?_eq_some_iff.mp e).1
      rw [List.length_append] at hlt
      have : i = l.length := by have : [x].length = 1 := rfl; omega
      subst this
      rw [List.getElem?_append_right (Nat.le_refl _), Nat.sub_self] at e
      cases e
      rw [h1]; exact hx
theorem paired_at {α β : Type} {F : α → β → Prop} : ∀ {as : List α} {bs : List β}, as.length = bs.length → (∀ (i : Nat) (a : α) (b : β), as[i]? = some a → bs[i]? = some b → F a b) → Paired F as bs
  | [], [], _, _ => .nil
  | [], _ :: _, h, _ => by cases h
  | _ :: _, [], h, _ => by cases h
  | a :: as, b :: bs, h, k => .cons (k 0 a b rfl rfl) (paired_at (by simpa using h) fun i x y h1 h2 => k (i + 1) x y (by simpa using h1) (by simpa using h2))
theorem paired_get {α β : Type} {F : α → β → Prop} {as : List α} {bs : List β} (h : Paired F as bs) : ∀ {i : Nat} {a : α}, as[i]? = some a → ∃ b, bs[i]? = some b ∧ F a b := by
  induction h with
  | nil => intro i a e; simp at e
  | cons x _ ih =>
    intro i a e
    cases i with
    | zero => cases e; exact ⟨_, rfl, x⟩
    | succ i => exact ih e
/-- the slots while slot i's dict is locked; es: its values then -/
structure LkE (i : Nat) (ks : List Key) (ρ ρ' : Env) (es : List D) : Prop where
  p : Paired LkSl ρ ρ'
  a : ρ'[i]? = some (.pu (.frz ks es))
theorem env_lock {G H : Hp} {σ : St} {ρ : Env} (x : EnvOk G H σ ρ) {i : Nat} {ks : List Key} {xs : List D} {dd : Addr} {od : Obj} {ws : List V} (h1 : ρ[i]? = some (.pu (.dct ks xs))) (h2 : σ[i]? = some (some (.ref dd))) (hd : G dd = some (.dK (ks.zip ws))) (hl : ks.length = xs.length) (hm : xs.length ≤ Lim) (r : Reps G xs ws) :
    ∃ ρ' es, LkE i ks ρ ρ' es ∧ es.length = xs.length ∧ Reps (upd G dd (.frz od (.dK (ks.zip ws)))) es ws ∧ EnvOk (upd G dd (.frz od (.dK (ks.zip ws)))) (upd H dd (.frz od (.dK (ks.zip ws)))) σ ρ' := by
  obtain ⟨es, le, re⟩ := Reps.lock (od := od) hd r
  let G' := upd G dd (.frz od (.dK (ks.zip ws)))
  have hi : i < ρ.length := (List.getElem?_eq_some_iff.mp h1).1
  obtain ⟨ρ', hlen, hρ⟩ := ex_list (P := fun j sl => (∀ s0, ρ[j]? = some s0 → LkSl s0 sl) ∧ (∀ d, sl = .pu d → ∃ v, σ[j]? = some (some v) ∧ Rep G' d v) ∧ (j = i → sl = .pu (.frz ks es))) ρ.length fun j hj => by
    by_cases e : j = i
    · subst e
      refine ⟨.pu (.frz ks es), fun s0 q => ?_, fun d q => ?_, fun _ => rfl⟩
      · rw [h1] at q; cases q; exact .pu (.dfz ks le)
      · cases q
        exact ⟨_, h2, .fz upd_same (by rw [← le.len]; exact hl) (by rw [← le.len]; exact hm) re⟩
    · cases q : ρ[j] with
      | un => exact ⟨.un, fun s0 z => by rw [List.getElem?_eq_getElem hj, q] at z; cases z; exact .un, fun d z => (by cases z), fun z => absurd z e⟩
      | ow d => exact ⟨.un, fun s0 z => by rw [List.getElem?_eq_getElem hj, q] at z; cases z; exact .ow d, fun d z => (by cases z), fun z => absurd z e⟩
      | pu d =>
        obtain ⟨v, s1, rv⟩ := x.pu j d (by rw [List.getElem?_eq_getElem hj, q])
        obtain ⟨d', l', r'⟩ := Rep.lock (od := od) hd rv
        exact ⟨.pu d', fun s0 z => by rw [List.getElem?_eq_getElem hj, q] at z; cases z; exact .pu l', fun d z => by cases z; exact ⟨v, s1, r'⟩, fun z => absurd z e⟩
  have no : ∀ j d, ρ'[j]? ≠ some (Sl.ow d) := fun j d z => by
    have hj : j < ρ.length := by rw [← hlen]; exact (List.getElem?_eq_some_iff.mp z).1
    have w := (hρ j _ z).1 _ (List.getElem?_eq_getElem hj)
    generalize ρ[j] = s0 at w
    cases w
  refine ⟨ρ', es, ⟨paired_at hlen.symm fun j a b ha hb => (hρ j b hb).1 a ha, ?_⟩, le.len.symm, re, fun c o z => ?_, by rw [hlen]; exact x.len, fun j d z => (hρ j _ z).2.1 d rfl, fun j d z => absurd z (no j d), fun j l ds es p z => absurd z (no j ds)⟩
  · obtain ⟨sl, hsl⟩ : ∃ sl, ρ'[i]? = some sl := ⟨_, List.getElem?_eq_getElem (by rw [hlen]; exact hi)⟩
    rw [hsl, (hρ i sl hsl).2.2 rfl]
  · by_cases q : c = dd
    · rw [q, upd_same] at z ⊢; exact z
    · rw [upd_ne q] at z ⊢; exact x.gh _ _ z
theorem lkE_ex {i : Nat} {ks : List Key} {xs : List D} {ρ : Env} (h1 : ρ[i]? = some (.pu (.dct ks xs))) : ∃ ρ' es, LkE i ks ρ ρ' es := by
  have hi : i < ρ.length := (List.getElem?_eq_some_iff.mp h1).1
  obtain ⟨ρ', hlen, hρ⟩ := ex_list (P := fun j sl => (∀ s0, ρ[j]? = some s0 → LkSl s0 sl) ∧ (j = i → sl = .pu (.frz ks xs))) ρ.length fun j hj => by
    by_cases e : j = i
    · subst e
      exact ⟨.pu (.frz ks xs), fun s0 q => by rw [h1] at q; cases q; exact .pu (.dfz ks (.refl _)), fun _ => rfl⟩
    · cases q : ρ[j] with
      | un => exact ⟨.un, fun s0 z => by rw [List.getElem?_eq_getElem hj, q] at z; cases z; exact .un, fun z => absurd z e⟩
      | ow d => exact ⟨.un, fun s0 z => by rw [List.getElem?_eq_getElem hj, q] at z; cases z; exact .ow d, fun z => absurd z e⟩
      | pu d => exact ⟨.pu d, fun s0 z => by rw [List.getElem?_eq_getElem hj, q] at z; cases z; exact .pu (.refl _), fun z => absurd z e⟩
  refine ⟨ρ', xs, paired_at hlen.symm fun j a b ha hb => (hρ j b hb).1 a ha, ?_⟩
  obtain ⟨sl, hsl⟩ : ∃ sl, ρ'[i]? = some sl := ⟨_, List.getElem?_eq_getElem (by rw [hlen]; exact hi)⟩
  rw [hsl, (hρ i sl hsl).2 rfl]
/-! what is walked over -/
inductive Kd where
  | items | vals | keys
def itemsL (ks : List Key) (es : List D) : List D := (ks.zip es).map fun p => .seq false [keyV p.1, p.2]
def pickK : Kd → List Key → List D → List D
  | .items, ks, es => itemsL ks es
  | .vals, _, es => es
  | .keys, ks, _ => ks.map keyV
def wiK (i : Nat) : Kd → TI
  | .items => iItems (tVar i)
  | .vals => iVals (tVar i)
  | .keys => iKeys (tVar i)
theorem pick_len {kd : Kd} {ks : List Key} {es : List D} (h : ks.length = es.length) : (pickK kd ks es).length = es.length := by
  cases kd with
  | items => show ((ks.zip es).map _).length = _; rw [List.length_map, List.length_zip, h, Nat.min_self]
  | vals => rfl
  | keys => show (ks.map keyV).length = _; rw [List.length_map, h]
theorem keyV_rep {G : Hp} {k : Key} (h : okKey k = true) : Rep G (keyV k) (kV k) := by
  cases k with
  | inl i => exact .lf rfl
  | inr x => exact .lf h
theorem it_kd {kd : Kd} {i : Nat} {ks : List Key} {es : List D} {ws : List V} {G H : Hp} {σ : St} {dd : Addr} {od : Obj} (h2 : σ[i]? = some (some (.ref dd))) (gh : Ex G H) (hd : G dd = some (.frz od (.dK (ks.zip ws)))) (hl : ks.length = es.length) (r : Reps G es ws) (hok : ks.all okKey = true) : ItAt (wiK i kd) (pickK kd ks es) G H σ := by
  have hlw : ks.length = ws.length := by rw [hl, r.len]
  have key : ∀ {j : Nat} {kk : Key} {vv : V}, (ks.zip ws)[j]? = some (kk, vv) → ks[j]? = some kk ∧ ws[j]? = some vv := fun {j kk vv} e => List.getElem?_zip_eq_some.mp e
  have lz : (ks.zip ws).length = (pickK kd ks es).length := by rw [pick_len hl, List.length_zip, hlw, Nat.min_self, r.len]
  intro R kR
  cases kd with
  | keys =>
    refine ⟨.ref dd, h2, dd, od, rfl, .inl ⟨_, gh _ _ hd, ?_⟩⟩
    refine kR _ _ _ (fun H' => H' dd = some (.frz od (.dK (ks.zip ws)))) _ (.refl gh) (by rw [← lz]; exact walk_keys) (fun H' g => g _ _ hd) ?_
    rintro j H' y H'' G' hj g1 g2 ⟨rfl, kk, vv, e4, rfl⟩
    obtain ⟨e5, _⟩ := key e4
    exact ⟨keyV kk, G', by show (ks.map keyV)[j]? = _; rw [List.getElem?_map, e5]; rfl, .refl g2, keyV_rep (List.all_eq_true.mp hok kk (List.mem_of_getElem? e5))⟩
  | vals =>
    refine ⟨.ref dd, h2, dd, od, _, rfl, gh _ _ hd, ?_⟩
    refine kR _ _ _ (fun H' => H' dd = some (.frz od (.dK (ks.zip ws)))) _ (.refl gh) (by rw [← lz]; exact walk_values) (fun H' g => g _ _ hd) ?_
    rintro j H' y H'' G' hj g1 g2 ⟨rfl, kk, e4⟩
    obtain ⟨_, e5⟩ := key e4
    obtain ⟨d, h3, h4⟩ := r.getV e5
    exact ⟨d, G', h3, .refl g2, h4.mono g1⟩
  | items =>
    refine ⟨.ref dd, h2, dd, od, _, rfl, gh _ _ hd, ?_⟩
    refine kR _ _ _ (fun H' => H' dd = some (.frz od (.dK (ks.zip ws)))) _ (.refl gh) (by rw [← lz]; exact walk_items) (fun H' g => g _ _ hd) (ypair_ok fun j x y hj e1 e2 => ?_)
    obtain ⟨p, ep, rfl⟩ := Option.map_eq_some_iff.mp e1
    obtain ⟨p2, ep2, rfl⟩ := Option.map_eq_some_iff.mp e2
    rw [ep] at ep2
    cases ep2
    obtain ⟨kk, vv⟩ := p
    obtain ⟨e5, e6⟩ := key ep
    obtain ⟨d, h3, h4⟩ := r.getV e6
    refine ⟨keyV kk, d, ?_, keyV_rep (List.all_eq_true.mp hok kk (List.mem_of_getElem? e5)), h4⟩
    show ((ks.zip es).map _)[j]? = _
    rw [List.getElem?_map, (List.getElem?_zip_eq_some (z := (kk, d))).mpr ⟨e5, h3⟩]
    rfl
theorem PE.or {X : Cx} {e : Expr} {t1 t2 : TE} (h1 : PE X e t1) (h2 : PE X e t2) : PE X e (fun σ H Q => t1 σ H Q ∨ t2 σ H Q) := ⟨fun pins s σ H Q I h => h.elim (h1.run pins s σ H Q I) (h2.run pins s σ H Q I)⟩
/-- the walk's dict stands so, or locked already -/
structure LkOf (kd : Kd) (i : Nat) (F : List D → Env → Prop) (ρ : Env) : Prop where
  h : ∃ ks xs, ks.all okKey = true ∧ ((ρ[i]? = some (.pu (.dct ks xs)) ∧ ∀ ρ' es, LkE i ks ρ ρ' es → F (pickK kd ks es) ρ') ∨ (ρ[i]? = some (.pu (.frz ks xs)) ∧ F (pickK kd ks xs) ρ))
section
variable {X : Cx} {tg iter elt : Expr} {φ : Env → Option D} {θ : D → Env → Option Env} {pos : Pos}
open Classical in
noncomputable def lkL (kd : Kd) (i : Nat) (vs : List Nat) (θ : D → Env → Option Env) (φ : Env → Option D) : Env → Option (List D) := fun ρ =>
  if h : ∃ zs, plainDs zs = true ∧ LkOf kd i (fun ds ρ' => compF θ yesF φ ds (wipeE ρ' vs) = some zs) ρ then some h.choose else none
theorem lkL_ok {kd : Kd} {i : Nat} {vs : List Nat} {ρ : Env} {zs : List D} (hp : plainDs zs = true) (h : LkOf kd i (fun ds ρ' => compF θ yesF φ ds (wipeE ρ' vs) = some zs) ρ) : lkL kd i vs θ φ ρ = some zs := by
  have hex : ∃ zs, plainDs zs = true ∧ LkOf kd i (fun ds ρ' => compF θ yesF φ ds (wipeE ρ' vs) = some zs) ρ := ⟨zs, hp, h⟩
  unfold lkL
  rw [dif_pos hex]
  obtain ⟨_, ks, xs, _, h1⟩ := hex.choose_spec
  obtain ⟨ks2, xs2, _, h2⟩ := h.h
  rcases h1 with ⟨a1, b1⟩ | ⟨a1, b1⟩
  · rcases h2 with ⟨a2, b2⟩ | ⟨a2, b2⟩
    · rw [a1] at a2
      cases a2
      obtain ⟨ρ', es, hE⟩ := lkE_ex a1
      have := (b1 ρ' es hE).symm.trans (b2 ρ' es hE)
      exact this
    · rw [a1] at a2; cases a2
  · rcases h2 with ⟨a2, b2⟩ | ⟨a2, b2⟩
    · rw [a1] at a2; cases a2
    · rw [a1] at a2
      cases a2
      exact b1.symm.trans b2
theorem lkL_un {kd : Kd} {i : Nat} {vs : List Nat} {ρ : Env} {zs : List D} (h : lkL kd i vs θ φ ρ = some zs) : plainDs zs = true ∧ LkOf kd i (fun ds ρ' => compF θ yesF φ ds (wipeE ρ' vs) = some zs) ρ := by
  unfold lkL at h
  split at h
  · rename_i hex
    cases h
    exact hex.choose_spec
  · cases h
/-- taking the lock off -/
theorem unlock {G H G2 H2 : Hp} {dd : Addr} {od : Obj} {ob : HO} (x : Ex G H) (hd : G dd = some ob) (f2 : Fr (upd G dd (.frz od ob)) (upd H dd (.frz od ob)) G2 H2) : G2 dd = some (.frz od ob) ∧ Fr G H (upd G2 dd ob) (upd H2 dd ob) := by
  have hHd := x _ _ hd
  have gd : G2 dd = some (.frz od ob) := f2.g _ _ upd_same
  refine ⟨gd, fun c o hh => ?_, fun c o hh => ?_, fun c o hh => ?_, fun c c1 c2 => ?_⟩
  · by_cases q : c = dd
    · rw [q, upd_same]; rw [q, hd] at hh; exact hh
    · rw [upd_ne q]; exact f2.g _ _ (by rw [upd_ne q]; exact hh)
  · by_cases q : c = dd
    · rw [q, upd_same] at hh ⊢; exact hh
    · rw [upd_ne q] at hh ⊢; exact f2.gh _ _ hh
  · by_cases q : c = dd
    · rw [q, upd_same]; rw [q, hHd] at hh; exact hh
    · rw [upd_ne q]; exact f2.h _ _ (by rw [upd_ne q]; exact hh)
  · have q : c ≠ dd := fun z => by rw [z, hd] at c2; cases c2
    rw [upd_ne q]
    exact f2.nw _ (by rw [upd_ne q]; exact c1) (by rw [upd_ne q]; exact c2)
theorem exS_un {G2 : Hp} {dd : Addr} {od : Obj} {ob : HO} (gd : G2 dd = some (.frz od ob)) : ExS G2 (upd G2 dd ob) := fun c b0 us0 hh => by
  have : c ≠ dd := fun z => by rw [z, gd] at hh; cases b0 <;> cases hh
  rw [upd_ne this]; exact hh
theorem ow_lkL {kd : Kd} {i : Nat} {scope : Scope} (own : List (Str × Nat)) (hc : X.calm = true) (hN : X.N.Nodup)
    {g : Shared → Hp → Addr → List (Str × Addr) → List Addr → TG} {te : Shared → Hp → Addr → List (Str × Addr) → List Addr → TE}
    (hi : PI X tg iter (wiK i kd))
    (ok : BlkOk X.N X.env.scope scope own)
    (ht : ∀ (s : Shared) (H : Hp) (C : Addr) (cl : List (Str × Addr)) (fp : List Addr), TgD (X.blk s H scope (compEnvC scope cl C X.env) fp) tg (g s H C cl fp) θ) (hw : ∀ s H C cl fp, TgW (g s H C cl fp) (own.map (·.2)))
    (he : ∀ (s : Shared) (H : Hp) (C : Addr) (cl : List (Str × Addr)) (fp : List Addr), PuD (X.blk s H scope (compEnvC scope cl C X.env) fp) elt (te s H C cl fp) φ)
    (hsI : ∀ x, foldedSetIterable iter X.env x = pure x := by intro _; rfl) :
    OwD X (.ListComp elt [⟨tg, iter, [], 0⟩] scope pos)
      (fun σ H Q => tLc (wiK i kd) (cTg (own.map (·.2)) θ) (cTe yesF) (cPu φ) (own.map (·.2)) σ H Q ∨ tLockE (tLc (wiK i kd) (cTg (own.map (·.2)) θ) (cTe yesF) (cPu φ) (own.map (·.2))) σ H Q) (lkL kd i (own.map (·.2)) θ φ) := by
  have pe : PE X (.ListComp elt [⟨tg, iter, [], 0⟩] scope pos) (tLc (wiK i kd) (cTg (own.map (·.2)) θ) (cTe yesF) (cPu φ) (own.map (·.2))) := pe_lc hc hN hi ok (fun s H C cl fp => (ht s H C cl fp).c (hw s H C cl fp))
      (fun s H C cl fp => ⟨fun pins s' σ H' Q I ⟨ρ, b, G, h1, h2, h3⟩ => pts_nil.run pins s' σ H' Q I (ts_nil ρ b h1 G H' σ h2 Q h3)⟩) (fun s H C cl fp => (he s H C cl fp).c) hsI
  refine ⟨PE.or pe (pe_lock pe), fun ρ z ee G H σ x Q k => ?_⟩
  obtain ⟨hp, ks, xs, hok, h⟩ := lkL_un ee
  rcases h with ⟨h1, hF⟩ | ⟨h1, hF⟩
  · right
    obtain ⟨v, h2, h3⟩ := x.pu i _ h1
    obtain ⟨dd, ws, rfl, hd, l1, l2, qs⟩ := h3.un_dct
    have hHd := x.gh _ _ hd
    refine ⟨dd, .dK (ks.zip ws), hHd, trivial, fun od => ?_⟩
    obtain ⟨ρ', es, hE, hle, re, x'⟩ := env_lock (od := od) x h1 h2 hd l1 l2 qs
    have hkl : ks.length = es.length := by rw [hle, l1]
    have fin := it_kd (kd := kd) h2 x'.gh upd_same hkl re hok
    refine lc_at (own.map (·.2)) fin x' (by rw [pick_len hkl, hle]; exact l2) (hF ρ' es hE) (fun v H' => H' dd = some (.frz od (.dK (ks.zip ws))) ∧ Q v (upd H' dd (.dK (ks.zip ws)))) fun pp us3 G2 H2 f2 n1 n2 h4 l4 q4 => ?_
    obtain ⟨gd, fr⟩ := unlock x.gh hd f2
    have hpd : pp ≠ dd := fun z => by rw [z, gd] at n2; cases n2
    refine ⟨f2.gh _ _ gd, k pp us3 (upd G2 dd (.dK (ks.zip ws))) _ fr ?_ ?_ ?_ l4 (Reps.plain (exS_un gd) hp q4)⟩
    · rw [upd_ne hpd] at n1; exact n1
    · rw [upd_ne hpd]; exact n2
    · rw [upd_ne hpd]; exact h4
  · left
    obtain ⟨v, h2, h3⟩ := x.pu i _ h1
    obtain ⟨dd, ws, od, rfl, hd, l1, l2, qs⟩ := h3.un_frz
    exact lc_at (own.map (·.2)) (it_kd (kd := kd) h2 x.gh hd l1 qs hok) x (by rw [pick_len l1]; exact l2) hF Q k
end
end L2.Tr

/-! Trees: {k: v for .. in d.items()}; own dicts lent; clear(). -/
namespace L2.Tr
open PySem PySem.Spec PyProof.Rows
section
variable {X : Cx} {tg iter kx vx : Expr} {θ : D → Env → Option Env} {φ φk φv : Env → Option D} {wi : TI} {pos : Pos}
theorem dc_at (vs : List Nat) {ds : List D} {r : List (Key × D)} {ρ : Env} {G H : Hp} {σ : St} (hi : ItAt wi ds G H σ) (x : EnvOk G H σ ρ) (hlen : ds.length ≤ Lim) (e3 : dcF θ φk φv ds (wipeE ρ vs) = some r) (hnd : (r.map (·.1)).Nodup) (Q : VK)
    (k : ∀ v G2 H2, Fr G H G2 H2 → Rep G2 (.dct (r.map (·.1)) (r.map (·.2))) v → Q v H2) : tDc wi (cTg vs θ) (cTe yesF) (cPu φk) (cPu φv) vs σ H Q := by
  have hrl := dcF_len e3
  have hLim : Lim = 5000 := rfl
  refine hi _ fun J G1 H1 Γ Y f1 wk hΓ hY => fun Dl nD => ?_
  have x1 := (x.mono f1).wipe vs
  let Inv : Nat → Hp → Prop := fun i H' => ∃ G' acc us rest, Fr G1 H1 G' H' ∧ G' Dl = none ∧ H' Dl = some (.dK ((acc.map (·.1)).zip us)) ∧ Reps G' (acc.map (·.2)) us ∧ acc.length = i ∧ dcF θ φk φv (ds.drop i) (wipeE ρ vs) = some rest ∧ r = acc ++ rest
  -- the measure: how many turns are left
  refine ⟨fun i left H' => left + i = ds.length ∧ Inv i H', ⟨ds.length, rfl, ⟨G1, [], [], r, .tmp f1.gh nD, f1.gh.back nD, upd_same, .nil, rfl, by rw [List.drop_zero]; exact e3, rfl⟩⟩, ?_⟩
  rintro i left H' ⟨hleft, hinv⟩
  have hΓ' : Γ H' := by
    obtain ⟨G', _, _, _, f', _⟩ := hinv
    exact hΓ H' (f'.g.trans f'.gh)
  by_cases hi' : i < ds.length
  · refine .inr ⟨wk.goes i H' hi' hΓ', Inv (i + 1), fun H2 inv2 => ⟨left - 1, by omega, by omega, inv2⟩, fun y H'' yl => ?_⟩
    have yy := wk.yields i H' y H'' hi' hΓ' yl
    obtain ⟨G', acc, us, rest, f', nG, hD, ra, hl, hc, hz⟩ := hinv
    obtain ⟨d, G'', h1, f2, r2⟩ := hY i H' y H'' G' hi' f'.g f'.gh yy
    have hd : ds.drop i = d :: ds.drop (i + 1) := by
      rw [List.drop_eq_getElem_cons hi']
      congr 1
      rw [List.getElem?_eq_getElem hi'] at h1
      exact Option.some.inj h1
    rw [hd] at hc
    unfold dcF at hc
    obtain ⟨ρ1, e4, hc⟩ := Option.bind_eq_some_iff.mp hc
    obtain ⟨yk, e5, hc⟩ := Option.bind_eq_some_iff.mp hc
    obtain ⟨kk, e6, hc⟩ := Option.bind_eq_some_iff.mp hc
    obtain ⟨zv, e7, hc⟩ := Option.bind_eq_some_iff.mp hc
    obtain ⟨rest2, e8, rfl⟩ := Option.map_eq_some_iff.mp hc
    have f12 := f'.trans f2
    have nG2 : G'' Dl = none := f2.nw _ (by rw [hD]; exact fun z => by cases z) nG
    have hD2 := f2.h _ _ hD
    refine ⟨wipeE ρ vs, ρ1, d, G'', e4, x1.mono f12, r2, fun σ2 x2 _ w2 => ⟨by rw [w2, wipe_wipe fun _ z => z], ρ1, true, G'', rfl, x2, fun G3 H3 f3 => ?_⟩⟩
    have nG3 : G3 Dl = none := f3.nw _ (by rw [hD2]; exact fun z => by cases z) nG2
    dsimp only
    rw [if_pos rfl]
    refine ⟨ρ1, yk, G3, e5, x2.mono f3, fun v4 G4 H4 f4 r4 => ⟨ρ1, zv, G4, e7, (x2.mono f3).mono f4, fun v5 G5 H5 f5 r5 => ?_⟩⟩
    have f35 := f3.trans (f4.trans f5)
    have nG5 : G5 Dl = none := f35.nw _ (by rw [hD2]; exact fun z => by cases z) nG2
    have hD5 := f35.h _ _ hD2
    have f15 := f12.trans f35
    have ra5 := ra.mono (f2.g.trans f35.g)
    have hkl : (acc.map (·.1)).length = us.length := by rw [List.length_map, ra.len, List.length_map]
    have hk : memK kk (acc.map (·.1)) = false := by
      rw [Bool.eq_false_iff]
      intro m
      have m := memK_iff.mp m
      rw [hz, List.map_append, List.map_cons] at hnd
      exact (List.nodup_append.mp hnd).2.2 _ m _ List.mem_cons_self rfl
    have hal : acc.length ≤ Lim := by rw [hl]; omega
    refine ⟨_, kk, keyD_kV e6 (.inl r4 : View G4 H4 _ _), hD5, ?_, G5, acc ++ [(kk, zv)], us ++ [v5], rest2, ⟨f15.g, fun a o q => ?_, fun a o q => ?_, f15.nw⟩, nG5, ?_, ?_, by rw [List.length_append, List.length_singleton, hl], e8, by rw [hz, List.append_assoc]; rfl⟩
    · rw [List.length_zip, List.length_map, sizeLine_eq]; omega
    · have : a ≠ Dl := fun e => by rw [e, nG5] at q; cases q
      rw [upd_ne this]; exact f15.gh _ _ q
    · have : a ≠ Dl := ne_of_none q nD
      rw [upd_ne this]; exact f15.h _ _ q
    · rw [upd_same, putK_zip hk hkl, List.map_append]; rfl
    · rw [List.map_append]; exact ra5.app (.cons r5 .nil)
  · have hi'' : i = ds.length := by omega
    subst hi''
    refine .inl ⟨wk.stops H' hΓ', ?_⟩
    obtain ⟨G', acc, us, rest, f', nG, hD, ra, hl, hc, hz⟩ := hinv
    rw [List.drop_length] at hc
    cases hc
    rw [List.append_nil] at hz
    subst hz
    refine k (.ref Dl) (upd G' Dl (.dK ((r.map (·.1)).zip us))) H' (f1.trans ⟨f'.g.trans (Ex.new nG), fun a o q => ?_, f'.h, fun a h1 h2 => ?_⟩) (.dc upd_same (by rw [List.length_map, List.length_map]) (by rw [List.length_map]; omega) (ra.mono (Ex.new nG)))
    · by_cases q2 : a = Dl
      · rw [q2, upd_same] at q; cases q; rw [q2]; exact hD
      · rw [upd_ne q2] at q; exact f'.gh _ _ q
    · have : a ≠ Dl := fun e => h1 (e ▸ nD)
      rw [upd_ne this]; exact f'.nw a h1 h2
open Classical in
noncomputable def lkDc (kd : Kd) (i : Nat) (vs : List Nat) (θ : D → Env → Option Env) (φk φv : Env → Option D) : Env → Option D := fun ρ =>
  if h : ∃ r : List (Key × D), (r.map (·.1)).Nodup ∧ plainDs (r.map (·.2)) = true ∧ LkOf kd i (fun ds ρ' => dcF θ φk φv ds (wipeE ρ' vs) = some r) ρ then some (.dct (h.choose.map (·.1)) (h.choose.map (·.2))) else none
theorem pu_lkD {kd : Kd} {i : Nat} {scope : Scope} (own : List (Str × Nat)) {g : Shared → Hp → Addr → List (Str × Addr) → List Addr → TG} {te te2 : Shared → Hp → Addr → List (Str × Addr) → List Addr → TE} (hc : X.calm = true) (hN : X.N.Nodup) (hi : PI X tg iter (wiK i kd)) (ok : BlkOk X.N X.env.scope scope own)
    (hg : ∀ (s : Shared) (H : Hp) (C : Addr) (cl : List (Str × Addr)) (fp : List Addr), TgD (X.blk s H scope (compEnvC scope cl C X.env) fp) tg (g s H C cl fp) θ) (hw : ∀ s H C cl fp, TgW (g s H C cl fp) (own.map (·.2)))
    (hk : ∀ (s : Shared) (H : Hp) (C : Addr) (cl : List (Str × Addr)) (fp : List Addr), PuD (X.blk s H scope (compEnvC scope cl C X.env) fp) kx (te s H C cl fp) φk)
    (he : ∀ (s : Shared) (H : Hp) (C : Addr) (cl : List (Str × Addr)) (fp : List Addr), PuD (X.blk s H scope (compEnvC scope cl C X.env) fp) vx (te2 s H C cl fp) φv) (hs : ∀ x, foldedSetIterable iter X.env x = pure x := by intro _; rfl) :
    PuD X (.DictComp kx vx [⟨tg, iter, [], 0⟩] scope pos)
      (fun σ H Q => tDc (wiK i kd) (cTg (own.map (·.2)) θ) (cTe yesF) (cPu φk) (cPu φv) (own.map (·.2)) σ H Q ∨ tLockE (tDc (wiK i kd) (cTg (own.map (·.2)) θ) (cTe yesF) (cPu φk) (cPu φv) (own.map (·.2))) σ H Q) (lkDc kd i (own.map (·.2)) θ φk φv) := by
  have pe : PE X (.DictComp kx vx [⟨tg, iter, [], 0⟩] scope pos) (tDc (wiK i kd) (cTg (own.map (·.2)) θ) (cTe yesF) (cPu φk) (cPu φv) (own.map (·.2))) := pe_dc hc hN hi ok (fun s H C cl fp => (hg s H C cl fp).c (hw s H C cl fp)) (fun s H C cl fp => ⟨fun pins s' σ H' Q I ⟨ρ, b, G, h1, h2, h3⟩ => pts_nil.run pins s' σ H' Q I (ts_nil ρ b h1 G H' σ h2 Q h3)⟩) (fun s H C cl fp => (hk s H C cl fp).c) (fun s H C cl fp => (he s H C cl fp).c) hs
  refine ⟨PE.or pe (pe_lock pe), fun ρ z ee G H σ x Q k => ?_⟩
  unfold lkDc at ee
  split at ee
  · rename_i hex
    cases ee
    have spec := hex.choose_spec
    generalize hex.choose = r at spec k
    obtain ⟨hnd, hp, ks, xs, hok, h⟩ := spec
    rcases h with ⟨h1, hF⟩ | ⟨h1, hF⟩
    · right
      obtain ⟨v, h2, h3⟩ := x.pu i _ h1
      obtain ⟨dd, ws, rfl, hd, l1, l2, qs⟩ := h3.un_dct
      have hHd := x.gh _ _ hd
      refine ⟨dd, .dK (ks.zip ws), hHd, trivial, fun od => ?_⟩
      obtain ⟨ρ', es, hE, hle, re, x'⟩ := env_lock (od := od) x h1 h2 hd l1 l2 qs
      have hkl : ks.length = es.length := by rw [hle, l1]
      refine dc_at (own.map (·.2)) (it_kd (kd := kd) h2 x'.gh upd_same hkl re hok) x' (by rw [pick_len hkl, hle]; exact l2) (hF ρ' es hE) hnd (fun v H' => H' dd = some (.frz od (.dK (ks.zip ws))) ∧ Q v (upd H' dd (.dK (ks.zip ws)))) fun v G2 H2 f2 r2 => ?_
      obtain ⟨gd, fr⟩ := unlock x.gh hd f2
      refine ⟨f2.gh _ _ gd, k v (upd G2 dd (.dK (ks.zip ws))) _ fr ?_⟩
      obtain ⟨a, us, rfl, ha, l3, l4, q4⟩ := r2.un_dct
      have na : a ≠ dd := fun z => by rw [z, gd] at ha; cases ha
      exact .dc (by rw [upd_ne na]; exact ha) l3 l4 (Reps.plain (exS_un gd) hp q4)
    · left
      obtain ⟨v, h2, h3⟩ := x.pu i _ h1
      obtain ⟨dd, ws, od, rfl, hd, l1, l2, qs⟩ := h3.un_frz
      exact dc_at (own.map (·.2)) (it_kd (kd := kd) h2 x.gh hd l1 qs hok) x (by rw [pick_len l1]; exact l2) hF hnd Q k
  · cases ee
end
/-! an own dict lent: it is locked meanwhile, what is made holds no locked dict -/
mutual
def noFz : D → Bool
  | .leaf _ => true
  | .seq _ ds => noFzs ds
  | .obj _ _ ds => noFzs ds
  | .dct _ ds => noFzs ds
  | .frz _ _ => false
def noFzs : List D → Bool
  | [] => true
  | d :: r => noFz d && noFzs r
end
def offH (G : Hp) (p : Addr) : Hp := fun a => if a = p then none else G a
mutual
theorem Rep.off {G : Hp} {p : Addr} {od : Obj} {ob : HO} (hp : G p = some (.frz od ob)) : ∀ {d : D} {v : V}, noFz d = true → Rep G d v → Rep (offH G p) d v
  | .leaf x, v, _, h => by unfold Rep at h ⊢; exact h
  | .seq b ds, v, n, h => by
    unfold Rep at h ⊢
    obtain ⟨a, ws, h1, h2, h3, h4⟩ := h
    have na : a ≠ p := fun e => by rw [e, hp] at h2; cases b <;> cases h2
    exact ⟨a, ws, h1, (if_neg na).trans h2, h3, Reps.off hp (by simpa [noFz] using n) h4⟩
  | .obj C ns ds, v, n, h => by
    unfold Rep at h ⊢
    obtain ⟨a, dx, ws, h1, h2, h3, h4⟩ := h
    have na : a ≠ p := fun e => by rw [e, hp] at h2; cases h2
    exact ⟨a, dx, ws, h1, (if_neg na).trans h2, h3, Reps.off hp (by simpa [noFz] using n) h4⟩
  | .dct ks ds, v, n, h => by
    unfold Rep at h ⊢
    obtain ⟨a, ws, h1, h2, h3, h3', h4⟩ := h
    have na : a ≠ p := fun e => by rw [e, hp] at h2; cases h2
    exact ⟨a, ws, h1, (if_neg na).trans h2, h3, h3', Reps.off hp (by simpa [noFz] using n) h4⟩
  | .frz ks ds, v, n, h => by simp [noFz] at n
theorem Reps.off {G : Hp} {p : Addr} {od : Obj} {ob : HO} (hp : G p = some (.frz od ob)) : ∀ {ds : List D} {ws : List V}, noFzs ds = true → Reps G ds ws → Reps (offH G p) ds ws
  | [], ws, _, h => by unfold Reps at h ⊢; exact h
  | d :: ds, ws, n, h => by
    unfold Reps at h ⊢
    obtain ⟨u, r, h1, h2, h3⟩ := h
    rw [noFzs, Bool.and_eq_true] at n
    exact ⟨u, r, h1, Rep.off hp n.1 h2, Reps.off hp n.2 h3⟩
end
def tmpD (j : Nat) (φ : Env → Option D) : Env → Option D := fun ρ => match ρ[j]? with
  | some (.ow (.dct ks ds)) => (φ (ρ.set j (.pu (.frz ks ds)))).bind fun d => if noFz d = true then some d else none
  | _ => none
end L2.Tr

/-! Several clauses `except x as n`. -/
namespace L2.Tr
open PySem PySem.Spec PyProof.Rows
/-! try with clauses `except x as n: y = (tag, n.f)`, on trees. -/
namespace L2.Tr
open PySem PySem.Spec PyProof.Rows
/-! Methods that may raise; calls to which an own list is handed for a while. -/
namespace L2.Tr
open PySem PySem.Spec PyProof.Rows
structure MthX (P : Program) (w : World) (K : PySem.W.Frag) (mg : Str → Option Value) (base : Heap) (C : Addr) (m : Str) (k : Nat) (f : List D → (Rz D → Prop) → Prop) : Prop where
  ex : ∃ (a : Addr) (fd : FuncData) (ps : List Str), Cls K C ∧ Meth K C m a ∧ FnOk P w K mg base (L2.CX P w) k a fd ps (spPX f) ∧ Binds K fd ps []
/-! isinstance of what may raise. -/
namespace L2.Tr
open PySem PySem.Spec PyProof.Rows
section
variable {τ : Type} {Ω : Om τ} {Υ : Hi Ω} {E : XK} {X : Cx} {e : Expr} {t : TE} {φ : WF τ (Rz D)}
def isiR (q : D → Option Bool) (φ : WF τ (Rz D)) : WF τ (Rz D) := bnd φ fun d s R => ∃ b, q d = some b ∧ R (.ok (bD b)) s
/-! Trees: isinstance(x, dict) of locked ones, too; {k: v}; d.clear(); own classes whose making may raise; x if t else y, t may raise; except C as n: y = n.f. -/
namespace L2.Tr
open PySem PySem.Spec PyProof.Rows
def isDctZ : D → Option Bool
  | .frz _ _ => some true
  | d => isDct d
theorem isT_dctZ {K : PySem.W.Frag} : IsT K (.type "dict") isDctZ := fun d b e H v r => by
  cases d with
  | frz ks ds =>
    cases e
    obtain ⟨a, us, o, rfl, h, _⟩ := r.un_frz
    exact ⟨_, .fDict h, kit_ty (show kitB "dict" "dict" = some true by decide +kernel)⟩
  | leaf v' => exact isT_dct (.leaf v') b e H v r
  | seq b' ds => exact isT_dct (.seq b' ds) b e H v r
  | dct ks ds => exact isT_dct (.dct ks ds) b e H v r
  | obj C ns ds => exact isT_dct (.obj C ns ds) b e H v r
section
variable {X : Cx} {e k o : Expr} {t tk : TE} {φ φk : Env → Option D} {pos : Pos}
/-! Trees: == of tuples that hold instances of own classes, dicts and plain data, whether it gives True or False. -/
namespace GQ
open PySem PySem.SeqAt
open AutoSeq1 (wpAny_loadPart')
open MeetsSeq MeetsSeq2 MeetsSeq3 SeqRoads2
section
variable {prog : Program} {w : World} {A : Around} {R : Result → Shared → Prop}
/-! Trees: == of mixed things, by what it tells of trees. -/
namespace L2.Tr
open PySem PySem.Spec PyProof.Rows
/-! Trees: a dict equals no tuple. -/
namespace GQ
open PySem PySem.SeqAt
open AutoSeq1 (wpAny_loadPart')
open MeetsSeq MeetsSeq2 MeetsSeq3 SeqRoads2
section
variable {prog : Program} {w : World} {A : Around} {E : Value → Shared → Prop} {s : Shared}
end
end GQ
namespace L2.Tr
open PySem PySem.Spec PyProof.Rows
section
variable {X : Cx}
def qDT : D → D → Option Bool
  | .dct _ _, .seq false _ => some false
  | .seq false _, .dct _ _ => some false
  | _, _ => none
end
end L2.Tr

/-! Trees: texts without a beginning; an own list without its last thing. -/
namespace L2.Tr
open PySem PySem.Spec PyProof.Rows
section
variable {X : Cx} {o e : Expr} {to t : TE} {φa φb : Env → Option D} {apos pos cpos : Pos}
def rmpD : D → D → Option D
  | .leaf (.str a), .leaf (.str b) => if a.length ≤ 1000 ∧ (Txt.removeprefix a b).length ≤ 1000 then some (.leaf (.str (Txt.removeprefix a b))) else none
  | _, _ => none
abbrev rRmp : V → List V → Hp → VK → Prop := fun x xs H Q => ∃ a b, x = .str a ∧ xs = [.str b] ∧ a.length ≤ sizeLine ∧ Q (.str (Txt.removeprefix a b)) H
theorem pu_rmp (ho : PuD X o to φa) (he : PuD X e t φb) (hp : PE X o to → PE X e t → PE X (.Call (.Attribute o "removeprefix" apos) [e] [] pos) (tBM X.K "str" rRmp to (tCons t tNil))) :
    PuD X (.Call (.Attribute o "removeprefix" apos) [e] [] pos) (tBM X.K "str" rRmp to (tCons t tNil)) (bin2 rmpD φa φb) := ⟨hp ho.pe he.pe, fun ρ d ee G H σ x Q k => by
  obtain ⟨d1, e1, e2⟩ := Option.bind_eq_some_iff.mp ee
  obtain ⟨d2, e3, e4⟩ := Option.bind_eq_some_iff.mp e2
  refine ho.ev ρ d1 e1 G H σ x _ fun v1 G1 H1 f1 r1 => ?_
  unfold rmpD at e4
  split at e4
  · rename_i a b
    split at e4
    · rename_i c
      cases e4
      obtain ⟨rfl, _⟩ := r1.un_lf
      refine ⟨by simp [tyV], he.ev ρ _ e3 G1 H1 σ (x.mono f1) _ fun v2 G2 H2 f2 r2 => ?_⟩
      obtain ⟨rfl, _⟩ := r2.un_lf
      refine ⟨a, b, rfl, rfl, Nat.le_trans c.1 (by decide), k _ G2 H2 (f1.trans f2) (.lf ?_)⟩
      show decide _ = true
      exact decide_eq_true c.2
    · cases e4
  · cases e4⟩
/-! Trees: defs that draw and hand back a thing of their own; displays of dicts that are one's own; d.update(e). -/
namespace L2
open PySem PySem.Spec PyProof.Rows
def rDUpd : V → List V → Hp → VK → Prop := fun x vs H Q => ∃ (a b : Addr) (kvs more : List (Key × V)), x = .ref a ∧ vs = [.ref b] ∧ a ≠ b ∧ H a = some (.dK kvs) ∧ H b = some (.dK more) ∧ kvs.length + more.length ≤ 1000 ∧ Q .non (upd H a (.dK (mergeK kvs more)))
theorem mtd_upd {X : Cx} : MtR X "dict.update" rDUpd := by
  intro pins s σ H x vs v us Q I rx rv h
  obtain ⟨a, b, kvs, more, ex, ev, hne, ha, hb, hl, q⟩ := h
  subst ex
  subst ev
  obtain rfl : v = Value.ref a := rx
  obtain ⟨u, rfl, ru⟩ := rv.one
  obtain rfl : u = Value.ref b := ru
  obtain ⟨z, hd, vs1, rel, dd⟩ := dk_of I.hok ha
  obtain ⟨z2, hd2, vs2, rel2, dd2⟩ := dk_of I.hok hb
  refine call_meetsIn PySem.F.slot_dict_update dd.typeIs PySem.F.entry_dict_update (PySem.F.args_dict_update_2 _ _) (meets_dict_update (mixKind X.prog X.w) a b hne hd2) ⟨vs1, vs2, dd, dd2, by rw [← rel.length, ← rel2.length, sizeLine_eq]; omega, fun h' dd' _ hs => ?_⟩
  have he : ∃ q, h'.get? a = some q := let ⟨q, _, _, hq, _⟩ := dd'; ⟨q, hq⟩
  have hz : (mergeK kvs more).length ≤ sizeLine := by
    have h1 := length_mergeK more kvs
    rw [sizeLine_eq]; omega
  exact ⟨.non, _, d_write (t' := s.toks) I (by rw [ha]; exact True.intro) hs he (dk_new hz hd (rel2.merge rel) dd'), rfl, q⟩
end L2
namespace L2.Tr
open PySem PySem.Spec PyProof.Rows
section
variable {X : Cx} {o e : Expr} {t : TE} {φ : Env → Option D} {ψ : Env → Option (List D)} {keys : List (Option Expr)} {values : List Expr} {trs : List (TE × TE)} {apos pos cpos : Pos}
/-- {k: v, ..}, one's own -/
theorem ot_disp {ks : List Str} (h : DsD X pos keys values trs ks ψ) (hn : ks.Nodup) (hk : ks.length ≤ 15) (hall : keys.all (·.isSome) = true) (hl : keys.length = values.length) (h0 : keys ≠ [])
    (h15 : keys.length ≤ 15) : OtD X (.Dict keys values pos) (tDisp trs) (dispF ks ψ) := ⟨pe_disp h.pps hall hl h0 h15, fun ρ d ee G H σ x Q k => by
  obtain ⟨ds, e1, e2⟩ := Option.bind_eq_some_iff.mp ee
  split at e2
  · rename_i hd
    cases e2
    intro p np
    have f0 : Fr G H G (upd H p (.dK [])) := .tmp x.gh np
    refine h.ev ρ ds e1 G _ σ (x.mono f0) _ fun vs G2 H2 f2 r2 l2 => ?_
    have hp2 := f2.h _ _ (upd_same (a := p) (o := (.dK [] : HO)))
    have gp2 : G2 p = none := f2.nw p (by rw [upd_same]; exact fun z => by cases z) (x.gh.back np)
    refine ⟨hp2, (ks.map Sum.inr : List Key).zip vs, zip_kv, by rw [List.length_zip, List.length_map]; omega, ?_⟩
    have e : mergeK [] ((ks.map Sum.inr : List Key).zip vs) = (ks.map Sum.inr).zip vs := by
      have := merge_zip (ks := ks.map Sum.inr) (acc := []) (vs := vs) (as := []) (by
        rw [List.nil_append]
        exact List.pairwise_map.mpr (hn.imp fun z w => z (Sum.inr.inj w))) rfl (by rw [List.length_map, l2])
      exact this
    rw [e]
    refine k p (.dK ((ks.map Sum.inr).zip vs)) G2 _ ⟨f2.g, fun a o z => ?_, fun a o z => ?_, fun a z1 z2 => ?_⟩ np gp2 upd_same ⟨vs, rfl, by rw [List.length_map, hd], by have : Lim = 5000 := rfl; omega, r2⟩
    · have q : a ≠ p := fun w => by rw [w, gp2] at z; cases z
      rw [upd_ne q]; exact f2.gh _ _ z
    · have q : a ≠ p := ne_of_none z np
      rw [upd_ne q]
      exact f2.h _ _ (by rw [upd_ne q]; exact z)
    · have q : a ≠ p := fun w => z1 (w ▸ np)
      exact f2.nw a (by rw [upd_ne q]; exact z1) z2
  · cases e2⟩
/-- d.update(e), d an own dict, e another one without keys of d -/
def updF (i : Nat) (φ : Env → Option D) : Env → Option Out := fun ρ => match ρ[i]? with
  | some (.ow (.dct ks ds)) => (φ ρ).bind fun d => match d with
    | .dct ls es => if (ks ++ ls).Nodup ∧ ds.length + es.length ≤ 1000 then some (.nx (ρ.set i (Sl.ow (.dct (ks ++ ls) (ds ++ es))))) else none
    | _ => none
  | _ => none
theorem sd_upd {i : Nat} (h : PuD X e t φ) (hp : PE X e t → PS X (.Expr (.Call (.Attribute o "update" apos) [e] [] cpos) pos) (tDrop (tBM X.K "dict" rDUpd (tVar i) (tCons t tNil)))) : StD X (.Expr (.Call (.Attribute o "update" apos) [e] [] cpos) pos) (tDrop (tBM X.K "dict" rDUpd (tVar i) (tCons t tNil))) (updF i φ) := ⟨hp h.pe, fun ρ o e G H σ x De kk => by
  unfold updF at e
  split at e
  · rename_i ks ds h1
    obtain ⟨d, e1, e2⟩ := Option.bind_eq_some_iff.mp e
    split at e2
    · rename_i ls es
      split at e2
      · rename_i hc
        cases e2
        obtain ⟨p, ob, h2, h3, h4, us, rfl, h5, h6, h7⟩ := x.ow i _ h1
        refine ⟨_, h2, .inr (.inr (.inl ⟨rfl, .inl ⟨_, h4⟩⟩)), ?_⟩
        refine h.ev ρ _ e1 G H σ x _ fun v G1 H1 f1 r1 => ?_
        obtain ⟨b, ws, rfl, hb, l5, l6, q⟩ := r1.un_dct
        have hp1 := f1.h _ _ h4
        have hb1 := f1.gh _ _ hb
        have gp1 : G1 p = none := f1.nw p (fun z => by rw [h4] at z; cases z) h3
        have hne : p ≠ b := fun z => by rw [← z, gp1] at hb; cases hb
        have hku : ks.length = us.length := by rw [h5, h7.len]
        have hlw : ls.length = ws.length := by rw [l5, q.len]
        refine ⟨p, b, _, _, rfl, rfl, hne, hp1, hb1, ?_, ?_⟩
        · rw [List.length_zip, List.length_zip, ← hku, ← hlw, Nat.min_self, Nat.min_self, h5, l5]; exact hc.2
        · have e : mergeK (ks.zip us) (ls.zip ws) = (ks ++ ls).zip (us ++ ws) := merge_zip hc.1 hku hlw
          rw [e]
          have g := grow_ok (x.mono f1) (fun _ _ _ z => by cases z) (ys := .dct (ks ++ ls) (ds ++ es)) (ob := .dK ((ks ++ ls).zip (us ++ ws))) h1 h2 ⟨us ++ ws, rfl, by rw [List.length_append, List.length_append, h5, l5], by rw [List.length_append]; have : Lim = 5000 := rfl; omega, (h7.mono f1.g).app q⟩
          exact kk σ G1 _ g.1 ((FrS.of f1).trans g.2)
      · cases e2
    · cases e2
  · cases e⟩
end
/-! defs that draw, and hand back a thing of their own -/
section
variable {τ : Type} {Ω : Om τ} {X : Cx} {e : Expr} {t : TE} {φ : WF τ D} {pos : Pos}
def SoWS (Ω : Om τ) (t : TS) (Ψ : WF τ D) : Prop := ∀ ρ s R, Ψ ρ s R → ∀ (G H : Hp) (σ : St), EnvW Ω s G H σ ρ → ∀ De : Ends,
  (∀ d p o s2 G2 H2, R d s2 → FrRW Ω s σ ρ G H s2 G2 H2 → (∀ u, H p = some u → Own σ ρ p) → G2 p = none → ¬ Ω.F s2 p → H2 p = some o → Top G2 d o → De.rt (.ref p) H2) → t De σ H
structure SoW (Ω : Om τ) (X : Cx) (sts : List Stmt) (t : TS) (Ψ : WF τ D) : Prop where
  ps : PSs X sts t
  ev : SoWS Ω t Ψ
/-- return x, x one's own -/
def ownW (i : Nat) : WF τ D := fun ρ s R => ∃ d, ρ[i]? = some (.ow d) ∧ R d s
theorem sow_ret {i : Nat} {x : Str} {p : Pos} (h : PE X (.Name x p) (tVar i)) : SoW Ω X [.Return (some (.Name x p)) pos] (tRet (tVar i)) (ownW i) := ⟨pss_one (ps_ret h), fun ρ s R ⟨d, h1, hR⟩ G H σ x De k => by
  obtain ⟨p, o, h2, h3, h4, h5⟩ := x.x.ow i d h1
  exact ⟨_, h2, k d p o s G H hR ⟨Ex.refl _, x.x.gh, fun _ _ h _ _ => h, fun _ _ h _ => h, x.i, fun a z => .inl z, fun a z => Ω.has s H a x.i z, x.g⟩ (fun u _ => ⟨i, d, h1, h2⟩) h3 (fun z => x.o p z ⟨i, d, h1, h2⟩) h4 h5⟩⟩
def tailW (Φ : WF τ Ou) (Ψ : WF τ D) : WF τ D := fun ρ s R => Φ ρ s fun o s1 => match o with
  | .nx ρ2 => Ψ ρ2 s1 R
  | _ => False
theorem sow_cons {st : Stmt} {rest : List Stmt} {ts tu : TS} {Φ : WF τ Ou} {Ψ : WF τ D} (h : StW Ω W0 X st ts Φ) (hr : SoW Ω X rest tu Ψ) : SoW Ω X (st :: rest) (tSeq ts tu) (tailW Φ Ψ) := ⟨pss_cons h.ps hr.ps, fun ρ s R hh G H σ x De k => by
  refine h.ev ρ s _ hh G H σ x _ fun o s1 q => ?_
  cases o with
  | nx ρ2 =>
    intro σ2 G2 H2 x2 f2
    refine hr.ev ρ2 s1 R q G2 H2 σ2 x2 De fun d p o s2 G3 H3 hR f3 n1 n2 n3 hp r => k d p o s2 G3 H3 hR (f2.transR x x2 f3) (fun u z => ?_) n2 n3 hp r
    refine Classical.byContradiction fun no => ?_
    by_cases hF : Ω.F s p
    · cases q2 : H2 p with
      | none => exact f2.kp p hF q2
      | some u2 =>
        rcases f2.ow p (n1 u2 q2) with w | w
        · exact no w
        · rw [w] at z; cases z
    · have h2 := f2.h p u z no hF
      rcases f2.ow p (n1 u h2) with w | w
      · exact no w
      · rw [w] at z; cases z
  | rt d => exact q.elim
  | bk ρ2 => exact q.elim
  | ct ρ2 => exact q.elim
  | rz ρ2 c ns ds => exact q.elim⟩
end
theorem ok_defWO {τ ι : Type} {Ωs : ι → Om τ} {P : Program} {w : World} {K : PySem.W.Frag} {mg : Str → Option Value} {base : Heap} {x qual : Str} {st : Stmt} {f : Addr} {fd : FuncData} {N ps : List Str} {k : Nat} {Ψs : ι → WF τ D} (F : Fun K x qual st f fd) (S : FnScope N ps (defScope st))
    (hb : ∀ (j : ι) (cdv : Value) (A : Around) (outer : List PySem.Env) (s : Shared) (H : Hp) (E : XK), Room k (A.deeper (envOfC qual (defScope st) s.heap.objs.size f cdv)) → ∃ t, SoW (Ωs j) (cxOf CX0 P w K mg base N qual (defScope st) f cdv A outer s H E).nox (defBody st) t (Ψs j)) :
    FnOk P w K mg base CX0 (k + 1) f fd ps (fun vs H Q E => ∃ j, spWO (Ωs j) (fun ds s R => ds.length = ps.length ∧ Ψs j (env0 N.length ds) s R) vs H Q E) := by
  refine F.ok S (fun vs H Q E h => ?_) (fun cdv A outer s H vs Q E hr h => ?_)
  · obtain ⟨j, s, G, ds, R, x, i, o, r, ⟨e, _⟩, _⟩ := h
    rw [r.len, e]
  · obtain ⟨j, s, G, ds, R, x, i, o, r, ⟨_, e⟩, q⟩ := h
    obtain ⟨t, b⟩ := hb j cdv A outer _ H E hr
    obtain ⟨x0, nown⟩ := env0W x i o (N := N) r
    refine ⟨t, b.ps, b.ev _ s _ e G H _ x0 _ fun d p o1 s1 G2 H2 q1 f2 n1 n2 n3 hp r2 => ?_⟩
    refine q d p o1 s1 G2 H2 q1 ⟨f2.g, f2.gh, fun a o h n => f2.h a o h (nown a) n, fun a h1 h2 => f2.nw a h1 h2 (nown a), f2.i, fun a z => (f2.fp a z).elim .inl fun w => w.elim .inr fun u => absurd u (nown a), f2.kp, f2.out⟩ ?_ n2 n3 hp r2
    cases hq : H p with
    | none => rfl
    | some u => exact absurd (n1 u hq) (nown p)
end L2.Tr

/-! Trees: == and != of lists that hold mixed things. -/
namespace GQ
open PySem PySem.SeqAt
open AutoSeq1 (wpAny_loadPart')
open MeetsSeq MeetsSeq2 MeetsSeq3 SeqRoads2
section
variable {prog : Program} {w : World} {A : Around} {R : Result → Shared → Prop}
namespace GQ
open PySem PySem.SeqAt
open AutoSeq1 (wpAny_loadPart')
open MeetsSeq MeetsSeq2 MeetsSeq3 SeqRoads2
section
variable {prog : Program} {w : World} {A : Around} {R : Result → Shared → Prop} {E : Value → Shared → Prop} {s : Shared}
def cmpB (neg : Bool) : Builtin := if neg = true then Builtin.«list.__ne__» else Builtin.«list.__eq__»
def cmpO (neg : Bool) : CmpOp := if neg = true then .NotEq else .Eq
end
end GQ
namespace L2.Tr
open PySem PySem.Spec PyProof.Rows
/-! Trees: making with some keywords, the others left; dict(pairs) of what is drawn. -/
namespace L2.Tr
open PySem PySem.Spec PyProof.Rows
structure MkrKD (P : Program) (w : World) (K : PySem.W.Frag) (mg : Str → Option Value) (base : Heap) (x : Str) (C : Addr) (k n : Nat) (ks : List Str) (dvs : List V) (f : List D → Option (List Str × List D)) : Prop where
  ex : ∃ (a : Addr) (fd : FuncData) (ps : List Str) (g : List Value → List Value → List Value), Mk K C a ∧ mg x = some (.ref C) ∧ FnOk P w K mg base CX0 k a fd ps (spI C f) ∧ KBn K fd ps (n + 1) ks g (fun vs zs => vs ++ zs ++ dvs)
section
variable {X : Cx} {C : Addr} {k : Nat} {e : Expr} {es : List Expr} {pos p : Pos} {ψ ψ2 : Env → Option (List D)}
end
end L2.Tr

/-! Trees: zip of a list and a tuple. -/
namespace L2.Zg
open PySem PySem.Spec PyProof.Rows
def iZipLT (K : PySem.W.Frag) (ta tb : TE) : TI := fun σ H R => ta σ H fun x H1 => ∃ a, x = .ref a ∧ tb σ H1 fun y H2 => ∃ b xs ys, y = .ref b ∧ SqL K H2 a xs ∧ SqT K H2 b ys ∧ R (Itz2 (fun H zs => SqL K H a zs) (fun H zs => SqT K H b zs)) H2
theorem pi_zipLT {X : Cx} {e e2 : Expr} {ta tb : TE} {p pos tpos : Pos} {elts : List Expr} {kk : Nat} (hg : Gl X "zip") (hm : X.mg "zip" = none) (ha : PE X e ta) (hb : PE X e2 tb)
    (hs2 : starEach [e2] X.env = (false, eval e2 X.env) :: starEach [] X.env := by rfl)
    (hs : starEach [e, e2] X.env = (false, eval e X.env) :: starEach [e2] X.env := by rfl) (hpl : (backTo pos (starEach [e2] X.env)).any (·.1) = false := by rfl) :
    PI X (.Tuple elts kk tpos) (.Call (.Name "zip" p) [e, e2] [] pos) (iZipLT X.K ta tb) := by
  refine ⟨fun pins s σ H R I h => ?_⟩
  refine Call_ (ld_blt I hg hm PyProof.Rows.boot_zip (PyProof.Rows.callWith_type1 (PyProof.Rows.args_cons ?_ hs) hs hpl))
  refine thn (ha.run pins s σ H _ I h) fun u s1 ⟨x, H1, I1, rx, a, ex, q⟩ => ?_
  subst ex
  obtain rfl : u = Value.ref a := rx
  refine PyProof.Rows.args_cons (thn (hb.run _ _ σ H1 _ I1 q) fun u2 s2 ⟨y, H2, J, ry, q2⟩ => PyProof.Rows.args_nil ?_) hs2
  obtain ⟨b, xs, ys, rfl, hqx, hqy, q⟩ := q2
  obtain rfl : u2 = Value.ref b := ry
  have fresh5 : ∀ c, c ∈ [s2.heap.objs.size + 4, s2.heap.objs.size + 2, s2.heap.objs.size + 3, s2.heap.objs.size, s2.heap.objs.size + 1] → FpOk X pins H2 c := fun c hcm => by
    have e' : c = s2.heap.objs.size + 4 ∨ c = s2.heap.objs.size + 2 ∨ c = s2.heap.objs.size + 3 ∨ c = s2.heap.objs.size ∨ c = s2.heap.objs.size + 1 := by simpa using hcm
    have hle : s2.heap.objs.size ≤ c := by
      rcases e' with z | z | z | z | z
      · rw [z]; exact Nat.le_add_right _ _
      · rw [z]; exact Nat.le_add_right _ _
      · rw [z]; exact Nat.le_add_right _ _
      · rw [z]; exact Nat.le_refl _
      · rw [z]; exact Nat.le_add_right _ _
    exact J.fpOk hle (J.hok.fresh hle)
  obtain ⟨its1, rv1, p1, _⟩ := J.list hqx
  obtain ⟨its2, rv2, p2, _⟩ := J.tuple hqy
  obtain ⟨o2, ho2, _⟩ := id p2
  have ka : ∀ c ∈ [a], Nat.lt c s2.heap.objs.size := fun c hc => by rw [List.mem_singleton.mp hc]; exact p1.lt
  have kb : ∀ c ∈ [b], Nat.lt c s2.heap.objs.size := fun c hc => by rw [List.mem_singleton.mp hc]; exact Heap.lt_size ho2
  refine call_zip2 (lays_lst p1.isList) (lays_tup (p2.push _)) rfl rfl fun h' hz hTI hTO h1 h2 hsz hk => wpAny_pyIter_zip hz ?_
  have I4 : Inv X pins σ H2 { s2 with heap := h' } := J.kept (t' := s2.toks) hk
  exact ⟨s2.heap.objs.size + 4, [s2.heap.objs.size + 4, s2.heap.objs.size + 2, s2.heap.objs.size + 3, s2.heap.objs.size, s2.heap.objs.size + 1], _, _, H2, rfl, I4, turn2 (apart s2.heap.objs.size ka kb) vs_lst vs_tup, ⟨hz, hTI, ⟨_, _, hTO⟩, ⟨_, h1, rfl, rfl⟩, ⟨_, h2, rfl, rfl⟩⟩, fresh5, q⟩
end L2.Zg
namespace L2.Tr
open PySem PySem.Spec PyProof.Rows
section
variable {X : Cx} {e e2 tg : Expr} {ta tb : TE} {φa φb : Env → Option D} {pos : Pos}
/-- zip of two lists, two tuples, or a list and a tuple -/
def zipM (φa φb : Env → Option D) : Env → Option (List D) := bin2 (fun x y => match x, y with
  | .seq b xs, .seq c ys => if b = true ∨ c = false then some (zipL xs ys) else none
  | _, _ => none) φa φb
theorem it_zipM {p tpos : Pos} {elts : List Expr} {kk : Nat} (ha : PuD X e ta φa) (hb : PuD X e2 tb φb) (hg : Gl X "zip") (hm : X.mg "zip" = none)
    (hs1 : starEach [e2] X.env = (false, eval e2 X.env) :: starEach [] X.env := by rfl) (hs : starEach [e, e2] X.env = (false, eval e X.env) :: starEach [e2] X.env := by rfl) (hpl : (backTo pos (starEach [e2] X.env)).any (·.1) = false := by rfl) :
    ItD X (.Tuple elts kk tpos) (.Call (.Name "zip" p) [e, e2] [] pos) (fun σ H R => RZ.iZipA X.K (tCons ta (tCons tb tNil)) σ H R ∨ Zg.iZipLT X.K ta tb σ H R) (zipM φa φb) :=
  ⟨PI.or (it_zip ha hb hg hm hs1 hs hpl).pi (Zg.pi_zipLT hg hm ha.pe hb.pe hs1 hs hpl), fun ρ ds ee G H σ x R k => by
    obtain ⟨d1, d2, e1, e2, e3⟩ := bin2_un ee
    split at e3
    · rename_i b xs c ys
      by_cases hbc : b = c
      · refine .inl ((it_zip (p := p) (tpos := tpos) (elts := elts) (kk := kk) ha hb hg hm hs1 hs hpl).ev ρ ds ?_ G H σ x R k)
        unfold zipF bin2
        rw [e1, Option.bind_some, e2, Option.bind_some]
        split at e3
        · show (if b = c then _ else _) = _
          rw [if_pos hbc]; exact e3
        · cases e3
      · split at e3
        · rename_i hor
          cases e3
          obtain ⟨rfl, rfl⟩ : b = true ∧ c = false := by
            cases b <;> cases c <;> simp_all
          refine .inr (ha.ev ρ _ e1 G H σ x _ fun v G1 H1 f1 r1 => ?_)
          have x1 := x.mono f1
          obtain ⟨a1, us0, rfl, h01, l01, q01⟩ := r1.un_sq
          refine ⟨a1, rfl, hb.ev ρ _ e2 G1 H1 σ x1 _ fun v2 G2 H2 f2 r2 => ?_⟩
          obtain ⟨a1', us, ea, h1, l1, q1⟩ := (r1.mono f2.g).un_sq
          cases ea
          obtain ⟨a2, ws, rfl, h2, l2, q2⟩ := r2.un_sq
          exact ⟨a2, us, ws, rfl, SqL.of (f2.gh _ _ h1), SqT.of (f2.gh _ _ h2), k _ G2 H2 (fun H => SqL X.K H a1 us ∧ SqT X.K H a2 ws) _ (f1.trans f2) (by rw [zip_len, ← q1.len, ← q2.len]; exact walk_v2 rfl) (fun H' g => ⟨SqL.of (g _ _ h1), SqT.of (g _ _ h2)⟩) (ypair_ok fun i x y _ z1 z2 => zip_get q1 q2 i x y z1 z2)⟩
        · cases e3
    · cases e3⟩
end
end L2.Tr

namespace L2.K1
open PySem PySem.Spec PyProof.Rows L2.Tr
noncomputable section
variable {P : Program} {w : World} {K : PySem.W.Frag} {mg : Str → Option Value} {base : Heap}
abbrev sIsLK : Stmt := top 13
abbrev nIsLK : List Str := ["thing"]
theorem scIsLK : FnScope nIsLK ["thing"] (defScope sIsLK) := ⟨rfl, rfl, rfl, by decide +kernel, rfl, by decide +kernel, by decide +kernel⟩
def FIsLK (K : PySem.W.Frag) : L2.Tr.Env → Option Out := (retF (isF (isSeqK K) (atP 0)))
def fIsLK (K : PySem.W.Frag) (ds : List D) : Option D := if ds.length = (["thing"] : List Str).length then runF nIsLK.length (FIsLK K ) ds else none
theorem okIsLK {f : Addr} {fd : FuncData} (F : Fun K "is_list" "is_list" sIsLK f fd) (B : TxB2 mg) : FnOk P w K mg base CX0 1 f fd ["thing"] (spP (fIsLK K )) :=
  ok_def (N := nIsLK) (Φ := FIsLK K ) F scIsLK fun cdv A outer s H E hr => ⟨_, (ss_one (sd_ret (pu_isiT isTs_seqK (by rfl) B.z_isinstance (by decide +kernel) (PuD.vi (pu_var (pv 0))) (TyArgs.cons (pe_bltn (v := .ty "list") (by rfl) B.z_list (by decide +kernel) rfl) (TyArgs.cons (pe_bltn (v := .ty "tuple") (by rfl) B.z_tuple (by decide +kernel) rfl) TyArgs.nil (by rfl)) (by rfl)) (by decide))))⟩
abbrev sSrc : Stmt := top 49
abbrev nSrc : List Str := ["columns", "name", "thing", "values"]
theorem scSrc : FnScope nSrc ["columns", "name", "thing"] (defScope sSrc) := ⟨rfl, rfl, rfl, by decide +kernel, rfl, by decide +kernel, by decide +kernel⟩
def FSrc (C : Addr) : L2.Tr.Env → Option Out := (seqF (asgF (metF C "told_values" (fTV C) (atP 0) (consD (atP 1) nilD)) (setF 3)) (seqF (ifS (orB (notB (truF (app1 fIsL (consD (atP 2) nilD)))) (asBF (bin2 (scD false) (app1 lenA (consD (atP 2) nilD)) (kD (.leaf (.int 0)))))) (retF (kD (.leaf (.bl false)))) skipF) (seqF (ifS (asBF (bin2 (scD false) (app1 lenA (consD (atP 2) nilD)) (kD (.leaf (.int 1))))) (retF (andF (bin2 (inD false) (bin2 ixD (atP 2) (kD (.leaf (.int 0)))) (tupDisp (consD (kD (.leaf (.str "moment"))) (consD (kD (.leaf (.str "throw"))) nilD)))) (bin2 (isN false) (atP 3) (kD (.leaf .non))))) skipF) (seqF (ifS (asBF (bin2 (scD false) (bin2 ixD (atP 2) (kD (.leaf (.int 0)))) (kD (.leaf (.str "value"))))) (retF (andF (bin2 (scD false) (app1 lenA (consD (atP 2) nilD)) (kD (.leaf (.int 2)))) (app1 fCan (consD (bin2 ixD (atP 2) (kD (.leaf (.int 1)))) (consD (atP 3) nilD))))) skipF) (retF (andF (bin2 (scD false) (bin2 ixD (atP 2) (kD (.leaf (.int 0)))) (kD (.leaf (.str "column")))) (andF (bin2 (scD false) (app1 lenA (consD (atP 2) nilD)) (kD (.leaf (.int 2)))) (andF (bin2 (conD false C (fIn C)) (bin2 ixD (atP 2) (kD (.leaf (.int 1)))) (atP 0)) (bin2 (eqP false) (metF C "told_values" (fTV C) (atP 0) (consD (bin2 ixD (atP 2) (kD (.leaf (.int 1)))) nilD)) (atP 3))))))))))
def fSrc (C : Addr) (ds : List D) : Option D := if ds.length = (["columns", "name", "thing"] : List Str).length then runF nSrc.length (FSrc C ) ds else none
theorem okSrc {f : Addr} {fd : FuncData} (C : Addr) (F : Fun K "_is_source" "_is_source" sSrc f fd) (B : TxB2 mg) (hL : Fn P w K mg base "is_list" 1 1 fIsL) (hC : Fn P w K mg base "can_stand" 2 2 fCan) (mT : Mth P w K mg base C "told_values" 2 (fTV C)) (hI : L2.Tr.Con P w K mg base C 1 (fIn C)) : FnOk P w K mg base CX0 3 f fd ["columns", "name", "thing"] (spP (fSrc C )) :=
  ok_def (N := nSrc) (Φ := FSrc C ) F scSrc fun cdv A outer s H E hr => ⟨_, (ss_cons (sd_nm (pu_meth mT (hr.mono (by first | decide | omega)) (pu_var (pv 0)) (ar_cons (pu_var (pv 1)) ar_nil)) (fun h => ps_set (i := 3) scSrc.nd rfl (by first | exact Or.inl rfl | exact Or.inr rfl) h)) (ss_cons (sd_if (TwD.te (tw_or (te_not (te_tru (PuD.vi (pu_call hL (hr.mono (by first | decide | omega)) (by rfl) (ar_cons (pu_var (pv 2)) ar_nil))) (fun _ => rfl))) (tw_or1 (te_cmp op_eq r2_eqS (nomark _) (PuD.vi (pu_cb (CallR.or call_len call_lenD) (R1D.or r1_len r1_lenK) (by rfl) B.z_len (by decide +kernel) (av_cons (PuD.vi (pu_var (pv 2))) av_nil))) (PuD.vi (pu_c pe_int rfl)))))) (ss_one (sd_ret (pu_c pe_bl rfl))) ss_nil) (ss_cons (sd_if (te_cmp op_eq r2_eqS (nomark _) (PuD.vi (pu_cb (CallR.or call_len call_lenD) (R1D.or r1_len r1_lenK) (by rfl) B.z_len (by decide +kernel) (av_cons (PuD.vi (pu_var (pv 2))) av_nil))) (PuD.vi (pu_c pe_int rfl))) (ss_one (sd_ret (pu_andT (pu_cmp op_in_seq r2_in (by with_unfolding_all rfl) (PuD.vi (pu_ix (PuD.vi (pu_var (pv 2))) (PuD.vi (pu_c pe_int rfl)) (fun _ _ => rfl))) (PuD.vi (pu_tup (ar_cons (pu_c pe_str (by decide +kernel)) (ar_cons (pu_c pe_str (by decide +kernel)) ar_nil))))) (pu_one (pu_cmp op_isN r2_isN (nomark _) (PuD.vi (pu_var (pv 3))) (PuD.vi (pu_c pe_non rfl))))))) ss_nil) (ss_cons (sd_if (te_cmp op_eq r2_eqS (nomark _) (PuD.vi (pu_ix (PuD.vi (pu_var (pv 2))) (PuD.vi (pu_c pe_int rfl)) (fun _ _ => rfl))) (PuD.vi (pu_c pe_str (by decide +kernel)))) (ss_one (sd_ret (pu_andT (pu_cmp op_eq r2_eqS (nomark _) (PuD.vi (pu_cb (CallR.or call_len call_lenD) (R1D.or r1_len r1_lenK) (by rfl) B.z_len (by decide +kernel) (av_cons (PuD.vi (pu_var (pv 2))) av_nil))) (PuD.vi (pu_c pe_int rfl))) (pu_one (pu_call hC (hr.mono (by first | decide | omega)) (by rfl) (ar_cons (pu_ix (PuD.vi (pu_var (pv 2))) (PuD.vi (pu_c pe_int rfl)) (fun _ _ => rfl)) (ar_cons (pu_var (pv 3)) ar_nil))))))) ss_nil) (ss_one (sd_ret (pu_andT (pu_cmp op_eq r2_eqS (nomark _) (PuD.vi (pu_ix (PuD.vi (pu_var (pv 2))) (PuD.vi (pu_c pe_int rfl)) (fun _ _ => rfl))) (PuD.vi (pu_c pe_str (by decide +kernel)))) (pu_andT (pu_cmp op_eq r2_eqS (nomark _) (PuD.vi (pu_cb (CallR.or call_len call_lenD) (R1D.or r1_len r1_lenK) (by rfl) B.z_len (by decide +kernel) (av_cons (PuD.vi (pu_var (pv 2))) av_nil))) (PuD.vi (pu_c pe_int rfl))) (pu_andT (pu_cmp (con_in hI (hr.mono (by first | decide | omega))) r2_con (by with_unfolding_all rfl) (PuD.vi (pu_ix (PuD.vi (pu_var (pv 2))) (PuD.vi (pu_c pe_int rfl)) (fun _ _ => rfl))) (PuD.vi (pu_var (pv 0)))) (pu_one (pu_cmp (op_eqD (hr.units)) r2_eqD (nomark _) (PuD.vi (pu_meth mT (hr.mono (by first | decide | omega)) (pu_var (pv 0)) (ar_cons (pu_ix (PuD.vi (pu_var (pv 2))) (PuD.vi (pu_c pe_int rfl)) (fun _ _ => rfl)) ar_nil))) (PuD.vi (pu_var (pv 3))))))))))))))⟩
abbrev sMo : Stmt := top 50
abbrev nMo : List Str := ["thing"]
theorem scMo : FnScope nMo ["thing"] (defScope sMo) := ⟨rfl, rfl, rfl, by decide +kernel, rfl, by decide +kernel, by decide +kernel⟩
def FMo : L2.Tr.Env → Option Out := (retF (andF (app1 fIsL (consD (atP 0) nilD)) (andF (bin2 (scD false) (app1 lenA (consD (atP 0) nilD)) (kD (.leaf (.int 1)))) (bin2 (scD false) (bin2 ixD (atP 0) (kD (.leaf (.int 0)))) (kD (.leaf (.str "moment")))))))
def fMo (ds : List D) : Option D := if ds.length = (["thing"] : List Str).length then runF nMo.length (FMo ) ds else none
theorem okMo {f : Addr} {fd : FuncData} (F : Fun K "_is_moment" "_is_moment" sMo f fd) (B : TxB2 mg) (hL : Fn P w K mg base "is_list" 1 1 fIsL) : FnOk P w K mg base CX0 2 f fd ["thing"] (spP (fMo )) :=
  ok_def (N := nMo) (Φ := FMo ) F scMo fun cdv A outer s H E hr => ⟨_, (ss_one (sd_ret (pu_andT (pu_call hL (hr.mono (by first | decide | omega)) (by rfl) (ar_cons (pu_var (pv 0)) ar_nil)) (pu_andT (pu_cmp op_eq r2_eqS (nomark _) (PuD.vi (pu_cb (CallR.or call_len call_lenD) (R1D.or r1_len r1_lenK) (by rfl) B.z_len (by decide +kernel) (av_cons (PuD.vi (pu_var (pv 0))) av_nil))) (PuD.vi (pu_c pe_int rfl))) (pu_one (pu_cmp op_eq r2_eqS (nomark _) (PuD.vi (pu_ix (PuD.vi (pu_var (pv 0))) (PuD.vi (pu_c pe_int rfl)) (fun _ _ => rfl))) (PuD.vi (pu_c pe_str (by decide +kernel)))))))))⟩
abbrev sCanP : Stmt := top 51
abbrev nCanP : List Str := ["columns", "row", "told", "name", "values", "thing"]
theorem scCanP : FnScope nCanP ["columns", "row"] (defScope sCanP) := ⟨rfl, rfl, rfl, by decide +kernel, rfl, by decide +kernel, by decide +kernel⟩
def FCanP (C : Addr) : L2.Tr.Env → Option Out := (seqF (ifS (orB (notB (truF (app1 fIsL (consD (atP 1) nilD)))) (asBF (bin2 (scD true) (app1 lenA (consD (atP 1) nilD)) (app1 (lenOD C (fLen C)) (consD (atP 0) nilD))))) (retF (kD (.leaf (.bl false)))) skipF) (seqF (asgF (mapS (lcF [3] (seqsF (mapS (metFO C "names" (fNames C) (atP 0)))) (setF 3) yesF (metF C "told_values" (fTV C) (atP 0) (consD (atP 3) nilD)))) (setF 2)) (retF (app1 allD (consD (mapS (lcF [4, 5] (zipM (atP 2) (atP 1)) (tupT 2 (consT (setF 4) (consT (setF 5) nilT))) yesF (orF (app1 fCan (consD (atP 5) (consD (atP 4) nilD))) (andF (bin2 (isN false) (atP 4) (kD (.leaf .non))) (app1 fMo (consD (atP 5) nilD)))))) nilD)))))
def fCanP (C : Addr) (ds : List D) : Option D := if ds.length = (["columns", "row"] : List Str).length then runF nCanP.length (FCanP C ) ds else none
theorem okCanP {f : Addr} {fd : FuncData} (C : Addr) (F : Fun K "_can_be_put" "_can_be_put" sCanP f fd) (B : TxB2 mg) (hL : Fn P w K mg base "is_list" 1 1 fIsL) (hC : Fn P w K mg base "can_stand" 2 2 fCan) (hMo : Fn P w K mg base "_is_moment" 2 1 fMo) (mT : Mth P w K mg base C "told_values" 2 (fTV C)) (mN : MthO P w K mg base C "names" 1 (fNames C)) (mL : Len P w K mg base C 1 (fLen C)) : FnOk P w K mg base CX0 3 f fd ["columns", "row"] (spP (fCanP C )) :=
  ok_def (N := nCanP) (Φ := FCanP C ) F scCanP fun cdv A outer s H E hr => ⟨_, (ss_cons (sd_if (TwD.te (tw_or (te_not (te_tru (PuD.vi (pu_call hL (hr.mono (by first | decide | omega)) (by rfl) (ar_cons (pu_var (pv 1)) ar_nil))) (fun _ => rfl))) (tw_or1 (te_cmp op_ne r2_neS (nomark _) (PuD.vi (pu_cb (CallR.or call_len call_lenD) (R1D.or r1_len r1_lenK) (by rfl) B.z_len (by decide +kernel) (av_cons (PuD.vi (pu_var (pv 1))) av_nil))) (PuD.vi (pu_cb (len_cr mL (hr.mono (by first | decide | omega))) r1_lenO (by rfl) B.z_len (by decide +kernel) (av_cons (PuD.vi (pu_var (pv 0))) av_nil))))))) (ss_one (sd_ret (pu_c pe_bl rfl))) ss_nil) (ss_cons (sd_set (OwD.pu (LcD.ow (lc0 [("name", 3)] (it_seq (OwD.pu (ow_meth0 mN (hr.mono (by first | decide | omega)) (pu_var (pv 0))))) (blkOk_by (N := nCanP) (sc := defScope sCanP) (by decide +kernel)) (fun _ _ _ _ _ => (tg_name (pg_name (i := 3) scCanP.nd rfl (Or.inl rfl)))) (fun _ _ _ _ _ => (tw_name (by decide))) (fun _ _ _ _ _ => (pu_meth mT (hr.mono (by first | decide | omega)) (pu_var (pv 0)) (ar_cons (pu_var (pv 3)) ar_nil)))) rfl scCanP.nd)) (LcD.set (i := 2) (lc0 [("name", 3)] (it_seq (OwD.pu (ow_meth0 mN (hr.mono (by first | decide | omega)) (pu_var (pv 0))))) (blkOk_by (N := nCanP) (sc := defScope sCanP) (by decide +kernel)) (fun _ _ _ _ _ => (tg_name (pg_name (i := 3) scCanP.nd rfl (Or.inl rfl)))) (fun _ _ _ _ _ => (tw_name (by decide))) (fun _ _ _ _ _ => (pu_meth mT (hr.mono (by first | decide | omega)) (pu_var (pv 0)) (ar_cons (pu_var (pv 3)) ar_nil)))) rfl scCanP.nd rfl rfl (sw_true rfl rfl rfl (by decide +kernel)))) (ss_one (sd_ret (pu_cb (cr_all rfl) r1_all (by rfl) B.z_all (by decide +kernel) (av_cons (PuD.vi (OwD.pu (LcD.ow (lc0 [("values", 4), ("thing", 5)] (it_zipM (pu_var (pv 2)) (pu_var (pv 1)) (by rfl) B.z_zip) (blkOk_by (N := nCanP) (sc := defScope sCanP) (by decide +kernel)) (fun _ _ _ _ _ => (tg_tup rfl (tgs_cons (tg_name (pg_name (i := 4) scCanP.nd rfl (Or.inl rfl))) (tgs_cons (tg_name (pg_name (i := 5) scCanP.nd rfl (Or.inl rfl))) tgs_nil)))) (fun _ _ _ _ _ => (tw_tup (tws_cons mono_nm (tw_name (by decide)) (tws_cons mono_nm (tw_name (by decide)) tws_nil)))) (fun _ _ _ _ _ => (pu_orT (pu_call hC (hr.mono (by first | decide | omega)) (by rfl) (ar_cons (pu_var (pv 5)) (ar_cons (pu_var (pv 4)) ar_nil))) (pu_one (pu_andT (pu_cmp op_isN r2_isN (nomark _) (PuD.vi (pu_var (pv 4))) (PuD.vi (pu_c pe_non rfl))) (pu_one (pu_call hMo (hr.mono (by first | decide | omega)) (by rfl) (ar_cons (pu_var (pv 5)) ar_nil)))))))) rfl scCanP.nd))) av_nil))))))⟩
abbrev sIsc : Stmt := top 52
abbrev nIsc : List Str := ["columns", "thing", "name", "source"]
theorem scIsc : FnScope nIsc ["columns", "thing"] (defScope sIsc) := ⟨rfl, rfl, rfl, by decide +kernel, rfl, by decide +kernel, by decide +kernel⟩
def FIsc (C : Addr) : L2.Tr.Env → Option Out := (seqF (ifS (notB (truF (isF isDctZ (atP 1)))) (retF (kD (.leaf (.bl false)))) skipF) (retF (app1 allD (consD (mapS (lkL .items 1 [2, 3] (tupT 2 (consT (setF 2) (consT (setF 3) nilT))) (andF (bin2 (conD false C (fIn C)) (atP 2) (atP 0)) (app1 (fSrc C) (consD (atP 0) (consD (atP 2) (consD (atP 3) nilD))))))) nilD))))
def fIsc (C : Addr) (ds : List D) : Option D := if ds.length = (["columns", "thing"] : List Str).length then runF nIsc.length (FIsc C ) ds else none
theorem okIsc {f : Addr} {fd : FuncData} (C : Addr) (F : Fun K "_is_change" "_is_change" sIsc f fd) (B : TxB2 mg) (hSrc : Fn P w K mg base "_is_source" 3 3 (fSrc C)) (hI : L2.Tr.Con P w K mg base C 1 (fIn C)) : FnOk P w K mg base CX0 4 f fd ["columns", "thing"] (spP (fIsc C )) :=
  ok_def (N := nIsc) (Φ := FIsc C ) F scIsc fun cdv A outer s H E hr => ⟨_, (ss_cons (sd_if (te_not (te_tru (PuD.vi (pu_isi isT_dctZ (by rfl) B.z_isinstance (by decide +kernel) (PuD.vi (pu_var (pv 1))) (pe_bltn (v := .ty "dict") (by rfl) B.z_dict (by decide +kernel) rfl))) (fun _ => rfl))) (ss_one (sd_ret (pu_c pe_bl rfl))) ss_nil) (ss_one (sd_ret (pu_cb (cr_all rfl) r1_all (by rfl) B.z_all (by decide +kernel) (av_cons (PuD.vi (OwD.pu (ow_lkL (kd := .items) (i := 1) [("name", 2), ("source", 3)] rfl scIsc.nd (pi_items (pv 1)) (blkOk_by (N := nIsc) (sc := defScope sIsc) (by decide +kernel)) (fun _ _ _ _ _ => (tg_tup rfl (tgs_cons (tg_name (pg_name (i := 2) scIsc.nd rfl (Or.inl rfl))) (tgs_cons (tg_name (pg_name (i := 3) scIsc.nd rfl (Or.inl rfl))) tgs_nil)))) (fun _ _ _ _ _ => (tw_tup (tws_cons mono_nm (tw_name (by decide)) (tws_cons mono_nm (tw_name (by decide)) tws_nil)))) (fun _ _ _ _ _ => (pu_andT (pu_cmp (con_in hI (hr.mono (by first | decide | omega))) r2_con (by with_unfolding_all rfl) (PuD.vi (pu_var (pv 2))) (PuD.vi (pu_var (pv 0)))) (pu_one (pu_call hSrc (hr.mono (by first | decide | omega)) (by rfl) (ar_cons (pu_var (pv 0)) (ar_cons (pu_var (pv 2)) (ar_cons (pu_var (pv 3)) ar_nil)))))))))) av_nil)))))⟩
abbrev sArc : Stmt := top 53
abbrev nArc : List Str := ["columns", "things", "thing"]
theorem scArc : FnScope nArc ["columns", "things"] (defScope sArc) := ⟨rfl, rfl, rfl, by decide +kernel, rfl, by decide +kernel, by decide +kernel⟩
def FArc (C : Addr) : L2.Tr.Env → Option Out := (seqF (ifS (truF (app1 fIsL (consD (atP 1) nilD))) (retF (andF (chainF (intI fun i j => .bl (decide (i ≤ j))) (intI fun i j => .bl (decide (i ≤ j))) (kD (.leaf (.int 1))) (app1 lenA (consD (atP 1) nilD)) (kD (.leaf (.int 2)))) (app1 allD (consD (mapS (lcF [2] (seqsF (atP 1)) (setF 2) yesF (app1 (fIsc C) (consD (atP 0) (consD (atP 2) nilD))))) nilD)))) skipF) (retF (app1 (fIsc C) (consD (atP 0) (consD (atP 1) nilD)))))
def fArc (C : Addr) (ds : List D) : Option D := if ds.length = (["columns", "things"] : List Str).length then runF nArc.length (FArc C ) ds else none
theorem okArc {f : Addr} {fd : FuncData} (C : Addr) (F : Fun K "_are_changes" "_are_changes" sArc f fd) (B : TxB2 mg) {tkM : Tok} (G_MOST_TAKEN : mg "MOST_TAKEN" = some (.int 2 tkM)) (hL : Fn P w K mg base "is_list" 1 1 fIsL) (hIsc : Fn P w K mg base "_is_change" 4 2 (fIsc C)) : FnOk P w K mg base CX0 5 f fd ["columns", "things"] (spP (fArc C )) :=
  ok_def (N := nArc) (Φ := FArc C ) F scArc fun cdv A outer s H E hr => ⟨_, (ss_cons (sd_if (te_tru (PuD.vi (pu_call hL (hr.mono (by first | decide | omega)) (by rfl) (ar_cons (pu_var (pv 1)) ar_nil))) (fun _ => rfl)) (ss_one (sd_ret (pu_andT (pu_chain op_le op_le (r2_I0 fun _ _ => rfl) (r2_I0 fun _ _ => rfl) (PuD.vi (pu_c pe_int rfl)) (PuD.vi (pu_cb (CallR.or call_len call_lenD) (R1D.or r1_len r1_lenK) (by rfl) B.z_len (by decide +kernel) (av_cons (PuD.vi (pu_var (pv 1))) av_nil))) (PuD.vi (pu_c (pe_glob (v := .int 2) (by rfl) G_MOST_TAKEN ⟨_, rfl⟩) (by decide +kernel)))) (pu_one (pu_cb (cr_all rfl) r1_all (by rfl) B.z_all (by decide +kernel) (av_cons (PuD.vi (OwD.pu (LcD.ow (lc0 [("thing", 2)] (it_seq (pu_var (pv 1))) (blkOk_by (N := nArc) (sc := defScope sArc) (by decide +kernel)) (fun _ _ _ _ _ => (tg_name (pg_name (i := 2) scArc.nd rfl (Or.inl rfl)))) (fun _ _ _ _ _ => (tw_name (by decide))) (fun _ _ _ _ _ => (pu_call hIsc (hr.mono (by first | decide | omega)) (by rfl) (ar_cons (pu_var (pv 0)) (ar_cons (pu_var (pv 2)) ar_nil))))) rfl scArc.nd))) av_nil)))))) ss_nil) (ss_one (sd_ret (pu_call hIsc (hr.mono (by first | decide | omega)) (by rfl) (ar_cons (pu_var (pv 0)) (ar_cons (pu_var (pv 1)) ar_nil))))))⟩
abbrev sCop : Stmt := top 54
abbrev nCop : List Str := ["change", "name", "source"]
theorem scCop : FnScope nCop ["change"] (defScope sCop) := ⟨rfl, rfl, rfl, by decide +kernel, rfl, by decide +kernel, by decide +kernel⟩
def FCop : L2.Tr.Env → Option Out := (retF (lkDc .items 0 [1, 2] (tupT 2 (consT (setF 1) (consT (setF 2) nilT))) (atP 1) (app1 tupD (consD (atP 2) nilD))))
def fCop (ds : List D) : Option D := if ds.length = (["change"] : List Str).length then runF nCop.length (FCop ) ds else none
theorem okCop {f : Addr} {fd : FuncData} (F : Fun K "_copied_change" "_copied_change" sCop f fd) (B : TxB2 mg) : FnOk P w K mg base CX0 1 f fd ["change"] (spP (fCop )) :=
  ok_def (N := nCop) (Φ := FCop ) F scCop fun cdv A outer s H E hr => ⟨_, (ss_one (sd_ret (pu_lkD (kd := .items) (i := 0) [("name", 1), ("source", 2)] rfl scCop.nd (pi_items (pv 0)) (blkOk_by (N := nCop) (sc := defScope sCop) (by decide +kernel)) (fun _ _ _ _ _ => (tg_tup rfl (tgs_cons (tg_name (pg_name (i := 1) scCop.nd rfl (Or.inl rfl))) (tgs_cons (tg_name (pg_name (i := 2) scCop.nd rfl (Or.inl rfl))) tgs_nil)))) (fun _ _ _ _ _ => (tw_tup (tws_cons mono_nm (tw_name (by decide)) (tws_cons mono_nm (tw_name (by decide)) tws_nil)))) (fun _ _ _ _ _ => (pu_var (pv 1))) (fun _ _ _ _ _ => (pu_cty call_tuple_of r1_tup (by rfl) B.z_tuple (by decide +kernel) (av_cons (PuD.vi (pu_var (pv 2))) av_nil))))))⟩
abbrev sCos : Stmt := top 55
abbrev nCos : List Str := ["changes", "change"]
theorem scCos : FnScope nCos ["changes"] (defScope sCos) := ⟨rfl, rfl, rfl, by decide +kernel, rfl, by decide +kernel, by decide +kernel⟩
def FCos : L2.Tr.Env → Option Out := (seqF (ifS (truF (isF isDctZ (atP 0))) (retF (app1 fCop (consD (atP 0) nilD))) skipF) (retF (app1 tupD (consD (mapS (lcF [1] (seqsF (atP 0)) (setF 1) yesF (app1 fCop (consD (atP 1) nilD)))) nilD))))
def fCos (ds : List D) : Option D := if ds.length = (["changes"] : List Str).length then runF nCos.length (FCos ) ds else none
theorem okCos {f : Addr} {fd : FuncData} (F : Fun K "_copied_changes" "_copied_changes" sCos f fd) (B : TxB2 mg) (hCop : Fn P w K mg base "_copied_change" 1 1 fCop) : FnOk P w K mg base CX0 2 f fd ["changes"] (spP (fCos )) :=
  ok_def (N := nCos) (Φ := FCos ) F scCos fun cdv A outer s H E hr => ⟨_, (ss_cons (sd_if (te_tru (PuD.vi (pu_isi isT_dctZ (by rfl) B.z_isinstance (by decide +kernel) (PuD.vi (pu_var (pv 0))) (pe_bltn (v := .ty "dict") (by rfl) B.z_dict (by decide +kernel) rfl))) (fun _ => rfl)) (ss_one (sd_ret (pu_call hCop (hr.mono (by first | decide | omega)) (by rfl) (ar_cons (pu_var (pv 0)) ar_nil)))) ss_nil) (ss_one (sd_ret (pu_cty call_tuple_of r1_tup (by rfl) B.z_tuple (by decide +kernel) (av_cons (PuD.vi (OwD.pu (LcD.ow (lc0 [("change", 1)] (it_seq (pu_var (pv 0))) (blkOk_by (N := nCos) (sc := defScope sCos) (by decide +kernel)) (fun _ _ _ _ _ => (tg_name (pg_name (i := 1) scCos.nd rfl (Or.inl rfl)))) (fun _ _ _ _ _ => (tw_name (by decide))) (fun _ _ _ _ _ => (pu_call hCop (hr.mono (by first | decide | omega)) (by rfl) (ar_cons (pu_var (pv 1)) ar_nil)))) rfl scCos.nd))) av_nil)))))⟩
abbrev sCog : Stmt := top 56
abbrev nCog : List Str := ["when"]
theorem scCog : FnScope nCog ["when"] (defScope sCog) := ⟨rfl, rfl, rfl, by decide +kernel, rfl, by decide +kernel, by decide +kernel⟩
def FCog : L2.Tr.Env → Option Out := (retF (ifF (asBF (bin2 (isN false) (atP 0) (kD (.leaf .non)))) (kD (.leaf .non)) (app1 tupD (consD (atP 0) nilD))))
def fCog (ds : List D) : Option D := if ds.length = (["when"] : List Str).length then runF nCog.length (FCog ) ds else none
theorem okCog {f : Addr} {fd : FuncData} (F : Fun K "_copied_guard" "_copied_guard" sCog f fd) (B : TxB2 mg) : FnOk P w K mg base CX0 1 f fd ["when"] (spP (fCog )) :=
  ok_def (N := nCog) (Φ := FCog ) F scCog fun cdv A outer s H E hr => ⟨_, (ss_one (sd_ret (pu_if (te_cmp op_isN r2_isN (nomark _) (PuD.vi (pu_var (pv 0))) (PuD.vi (pu_c pe_non rfl))) (pu_c pe_non rfl) (pu_cty call_tuple_of r1_tup (by rfl) B.z_tuple (by decide +kernel) (av_cons (PuD.vi (pu_var (pv 0))) av_nil)))))⟩
abbrev sGd : Stmt := top 57
abbrev nGd : List Str := ["columns", "thing"]
theorem scGd : FnScope nGd ["columns", "thing"] (defScope sGd) := ⟨rfl, rfl, rfl, by decide +kernel, rfl, by decide +kernel, by decide +kernel⟩
def FGd (C C3 : Addr) : L2.Tr.Env → Option Out := (retF (andF (app1 fIsL (consD (atP 1) nilD)) (andF (bin2 (scD false) (app1 lenA (consD (atP 1) nilD)) (kD (.leaf (.int 2)))) (andF (bin2 (inD false) (bin2 ixD (atP 1) (kD (.leaf (.int 0)))) (tupDisp (consD (kD (.leaf (.str "some"))) (consD (kD (.leaf (.str "none"))) nilD)))) (andF (isF (isCls C3) (bin2 ixD (atP 1) (kD (.leaf (.int 1))))) (bin2 (eqOD false C (fEq C)) (fldF C3 "columns" (bin2 ixD (atP 1) (kD (.leaf (.int 1))))) (atP 0)))))))
def fGd (C C3 : Addr) (ds : List D) : Option D := if ds.length = (["columns", "thing"] : List Str).length then runF nGd.length (FGd C C3 ) ds else none
theorem okGd {f : Addr} {fd : FuncData} (C C3 : Addr) (F : Fun K "_is_guard" "_is_guard" sGd f fd) (B : TxB2 mg) (clL : Cls K C3) (m1 : NoAttr K C3 "columns") (oc : OwnC K C3) (G_Look : mg "Look" = some (.ref C3)) (hL : Fn P w K mg base "is_list" 1 1 fIsL) (mE : Eqr P w K mg base C 1 (fEq C)) : FnOk P w K mg base CX0 2 f fd ["columns", "thing"] (spP (fGd C C3 )) :=
  ok_def (N := nGd) (Φ := FGd C C3 ) F scGd fun cdv A outer s H E hr => ⟨_, (ss_one (sd_ret (pu_andT (pu_call hL (hr.mono (by first | decide | omega)) (by rfl) (ar_cons (pu_var (pv 1)) ar_nil)) (pu_andT (pu_cmp op_eq r2_eqS (nomark _) (PuD.vi (pu_cb (CallR.or call_len call_lenD) (R1D.or r1_len r1_lenK) (by rfl) B.z_len (by decide +kernel) (av_cons (PuD.vi (pu_var (pv 1))) av_nil))) (PuD.vi (pu_c pe_int rfl))) (pu_andT (pu_cmp op_in_seq r2_in (by with_unfolding_all rfl) (PuD.vi (pu_ix (PuD.vi (pu_var (pv 1))) (PuD.vi (pu_c pe_int rfl)) (fun _ _ => rfl))) (PuD.vi (pu_tup (ar_cons (pu_c pe_str (by decide +kernel)) (ar_cons (pu_c pe_str (by decide +kernel)) ar_nil))))) (pu_andT (pu_isiC (isT_cls oc) (by rfl) B.z_isinstance (by decide +kernel) (PuD.vi (pu_ix (PuD.vi (pu_var (pv 1))) (PuD.vi (pu_c pe_int rfl)) (fun _ _ => rfl))) (pe_glob (by rfl) G_Look rfl)) (pu_one (pu_cmp (eqr_eq mE (hr.mono (by first | decide | omega))) r2_eqO (nomark _) (PuD.vi (pu_fld clL m1 (PuD.vi (pu_ix (PuD.vi (pu_var (pv 1))) (PuD.vi (pu_c pe_int rfl)) (fun _ _ => rfl))))) (PuD.vi (pu_var (pv 0)))))))))))⟩
abbrev sOrd : Stmt := top 58
abbrev nOrd : List Str := ["columns", "thing", "part", "names", "name"]
theorem scOrd : FnScope nOrd ["columns", "thing"] (defScope sOrd) := ⟨rfl, rfl, rfl, by decide +kernel, rfl, by decide +kernel, by decide +kernel⟩
def FOrd (K : PySem.W.Frag) (C : Addr) : L2.Tr.Env → Option Out := (seqF (ifS (orB (notB (truF (app1 (fIsLK K) (consD (atP 1) nilD)))) (notB (truF (app1 allD (consD (mapS (lcF [2] (seqsK K (atP 1)) (setF 2) yesF (isF isStr (atP 2)))) nilD))))) (retF (kD (.leaf (.bl false)))) skipF) (seqF (asgO 3 (lcF [2] (seqsK K (atP 1)) (setF 2) yesF (bin2 rmpD (atP 2) (kD (.leaf (.str "-")))))) (seqF (ifS (andB (truF (atV 3)) (asBF (bin2 (scD false) (bin2 ixD (atV 3) (negF (kD (.leaf (.int 1))))) (kD (.leaf (.str "number")))))) (popF 3) skipF) (seqF (frzF 3 (ifS (notB (truF (app1 allD (consD (mapS (lcF [4] (seqsF (atP 3)) (setF 4) yesF (andF (bin2 (conD false C (fIn C)) (atP 4) (atP 0)) (bin2 (isN true) (metF C "told_values" (fTV C) (atP 0) (consD (atP 4) nilD)) (kD (.leaf .non)))))) nilD)))) (retF (kD (.leaf (.bl false)))) skipF)) (retF (bin2 (scD false) (lenSF (atV 3)) (app1 lenA (consD (atV 3) nilD))))))))
def fOrd (K : PySem.W.Frag) (C : Addr) (ds : List D) : Option D := if ds.length = (["columns", "thing"] : List Str).length then runF nOrd.length (FOrd K C ) ds else none
theorem okOrd {f : Addr} {fd : FuncData} (C : Addr) (F : Fun K "_is_order" "_is_order" sOrd f fd) (B : TxB2 mg) (hLK : Fn P w K mg base "is_list" 1 1 (fIsLK K)) (mT : Mth P w K mg base C "told_values" 2 (fTV C)) (hI : L2.Tr.Con P w K mg base C 1 (fIn C)) : FnOk P w K mg base CX0 3 f fd ["columns", "thing"] (spP (fOrd K C )) :=
  ok_def (N := nOrd) (Φ := FOrd K C ) F scOrd fun cdv A outer s H E hr => ⟨_, (ss_cons (sd_if (TwD.te (tw_or (te_not (te_tru (PuD.vi (pu_call hLK (hr.mono (by first | decide | omega)) (by rfl) (ar_cons (pu_var (pv 1)) ar_nil))) (fun _ => rfl))) (tw_or1 (te_not (te_tru (PuD.vi (pu_cb (cr_all rfl) r1_all (by rfl) B.z_all (by decide +kernel) (av_cons (PuD.vi (OwD.pu (LcD.ow (lc0 [("part", 2)] (it_seqK (pu_var (pv 1))) (blkOk_by (N := nOrd) (sc := defScope sOrd) (by decide +kernel)) (fun _ _ _ _ _ => (tg_name (pg_name (i := 2) scOrd.nd rfl (Or.inl rfl)))) (fun _ _ _ _ _ => (tw_name (by decide))) (fun _ _ _ _ _ => (pu_isi isT_str (by rfl) B.z_isinstance (by decide +kernel) (PuD.vi (pu_var (pv 2))) (pe_bltn (v := .ty "str") (by rfl) B.z_str (by decide +kernel) rfl)))) rfl scOrd.nd))) av_nil))) (fun _ => rfl)))))) (ss_one (sd_ret (pu_c pe_bl rfl))) ss_nil) (ss_cons (sd_setO (LcD.ow (lc0 [("part", 2)] (it_seqK (pu_var (pv 1))) (blkOk_by (N := nOrd) (sc := defScope sOrd) (by decide +kernel)) (fun _ _ _ _ _ => (tg_name (pg_name (i := 2) scOrd.nd rfl (Or.inl rfl)))) (fun _ _ _ _ _ => (tw_name (by decide))) (fun _ _ _ _ _ => (pu_rmp (pu_var (pv 2)) (pu_c pe_str (by decide +kernel)) (fun ho h => pe_bm PySem.F.plainAttrs_str PySem.F.slot_str_removeprefix PySem.F.type_str_removeprefix mt_removeprefix ho (pa_cons h pa_nil))))) rfl scOrd.nd) (LcD.set (i := 3) (lc0 [("part", 2)] (it_seqK (pu_var (pv 1))) (blkOk_by (N := nOrd) (sc := defScope sOrd) (by decide +kernel)) (fun _ _ _ _ _ => (tg_name (pg_name (i := 2) scOrd.nd rfl (Or.inl rfl)))) (fun _ _ _ _ _ => (tw_name (by decide))) (fun _ _ _ _ _ => (pu_rmp (pu_var (pv 2)) (pu_c pe_str (by decide +kernel)) (fun ho h => pe_bm PySem.F.plainAttrs_str PySem.F.slot_str_removeprefix PySem.F.type_str_removeprefix mt_removeprefix ho (pa_cons h pa_nil))))) rfl scOrd.nd rfl rfl (sw_true rfl rfl rfl (by decide +kernel)))) (ss_cons (sd_if (TwD.te (tw_and (te_tru (vi_var (pv 3)) (fun _ => rfl)) (tw_and1 (te_cmp op_eq r2_eqS (nomark _) (PuD.vi (pu_ix (vi_var (pv 3)) (PuD.vi (pu_neg (pu_c pe_int rfl))) (fun _ _ => rfl))) (PuD.vi (pu_c pe_str (by decide +kernel))))))) (ss_one (sd_pop0 (i := 3) (ps_expr (pe_bm0 PySem.F.plainAttrs_list PySem.F.slot_list_pop PySem.F.type_list_pop mt_pop (pv 3)) (by rfl)))) ss_nil) (ss_cons (sd_frz 3 (sd_if (te_not (te_tru (PuD.vi (pu_cb (cr_all rfl) r1_all (by rfl) B.z_all (by decide +kernel) (av_cons (PuD.vi (OwD.pu (LcD.ow (lc0 [("name", 4)] (it_seq (pu_var (pv 3))) (blkOk_by (N := nOrd) (sc := defScope sOrd) (by decide +kernel)) (fun _ _ _ _ _ => (tg_name (pg_name (i := 4) scOrd.nd rfl (Or.inl rfl)))) (fun _ _ _ _ _ => (tw_name (by decide))) (fun _ _ _ _ _ => (pu_andT (pu_cmp (con_in hI (hr.mono (by first | decide | omega))) r2_con (by with_unfolding_all rfl) (PuD.vi (pu_var (pv 4))) (PuD.vi (pu_var (pv 0)))) (pu_one (pu_cmp op_notN r2_notN (nomark _) (PuD.vi (pu_meth mT (hr.mono (by first | decide | omega)) (pu_var (pv 0)) (ar_cons (pu_var (pv 4)) ar_nil))) (PuD.vi (pu_c pe_non rfl))))))) rfl scOrd.nd))) av_nil))) (fun _ => rfl))) (ss_one (sd_ret (pu_c pe_bl rfl))) ss_nil)) (ss_one (sd_ret (pu_cmp op_eq r2_eqS (nomark _) (PuD.vi (pu_lenS rfl (by rfl) B.z_len (by rfl) B.z_set (vi_var (pv 3)))) (PuD.vi (pu_cb (CallR.or call_len call_lenD) (R1D.or r1_len r1_lenK) (by rfl) B.z_len (by decide +kernel) (av_cons (vi_var (pv 3)) av_nil))))))))))⟩
abbrev sChO : Stmt := top 59
abbrev nChO : List Str := ["columns", "by", "most"]
theorem scChO : FnScope nChO ["columns", "by", "most"] (defScope sChO) := ⟨rfl, rfl, rfl, by decide +kernel, rfl, by decide +kernel, by decide +kernel⟩
def FChO (K : PySem.W.Frag) (C : Addr) : L2.Tr.Env → Option Out := (ifS (orB (notB (truF (app1 (fOrd K C) (consD (atP 0) (consD (atP 1) nilD))))) (andB (asBF (bin2 (isN false) (atP 2) (kD (.leaf .non)))) (asBF (bin2 (intI fun i j => .bl (decide (j < i))) (app1 (lenAK K) (consD (atP 1) nilD)) (kD (.leaf (.int 0))))))) neverF skipF)
def fChO (K : PySem.W.Frag) (C : Addr) (ds : List D) : Option D := if ds.length = (["columns", "by", "most"] : List Str).length then runF nChO.length (FChO K C ) ds else none
theorem okChO {f : Addr} {fd : FuncData} (C : Addr) (F : Fun K "_check_order" "_check_order" sChO f fd) (B : TxB2 mg) (hOr : Fn P w K mg base "_is_order" 3 2 (fOrd K C)) : FnOk P w K mg base CX0 4 f fd ["columns", "by", "most"] (spP (fChO K C )) :=
  ok_def (N := nChO) (Φ := FChO K C ) F scChO fun cdv A outer s H E hr => ⟨_, (ss_one (sd_if (TwD.te (tw_or (te_not (te_tru (PuD.vi (pu_call hOr (hr.mono (by first | decide | omega)) (by rfl) (ar_cons (pu_var (pv 0)) (ar_cons (pu_var (pv 1)) ar_nil)))) (fun _ => rfl))) (tw_or1 (TwD.te (tw_and (te_cmp op_isN r2_isN (nomark _) (PuD.vi (pu_var (pv 2))) (PuD.vi (pu_c pe_non rfl))) (tw_and1 (te_cmp op_gt (r2_I0 fun _ _ => rfl) (nomark _) (PuD.vi (pu_cb (CallR.or (CallR.or call_len call_lenD) call_len) (R1D.or (R1D.or r1_len r1_lenK) r1_lenG) (by rfl) B.z_len (by decide +kernel) (av_cons (PuD.vi (pu_var (pv 1))) av_nil))) (PuD.vi (pu_c pe_int rfl))))))))) (ss_one sd_never) ss_nil))⟩
abbrev sChk : Stmt := top 60
abbrev nChk : List Str := ["columns", "when", "must", "how"]
theorem scChk : FnScope nChk ["columns", "when", "must", "how"] (defScope sChk) := ⟨rfl, rfl, rfl, by decide +kernel, rfl, by decide +kernel, by decide +kernel⟩
def FChk (K : PySem.W.Frag) (C C3 a_WAYS : Addr) : L2.Tr.Env → Option Out := (seqF (ifS (andB (asBF (bin2 (isN true) (atP 1) (kD (.leaf .non)))) (notB (truF (app1 (fGd C C3) (consD (atP 0) (consD (atP 1) nilD)))))) neverF skipF) (seqF (ifS (notB (truF (isF isBool (atP 2)))) neverF skipF) (ifS (asBF (bin2 (inKD K true) (atP 3) (kD (.leaf (.ref a_WAYS))))) neverF skipF)))
def fChk (K : PySem.W.Frag) (C C3 a_WAYS : Addr) (ds : List D) : Option D := if ds.length = (["columns", "when", "must", "how"] : List Str).length then runF nChk.length (FChk K C C3 a_WAYS ) ds else none
theorem okChk {f : Addr} {fd : FuncData} (C C3 a_WAYS : Addr) (F : Fun K "_check_end" "_check_end" sChk f fd) (B : TxB2 mg) (G_WAYS : mg "WAYS" = some (.ref a_WAYS)) (hGd : Fn P w K mg base "_is_guard" 2 2 (fGd C C3)) : FnOk P w K mg base CX0 3 f fd ["columns", "when", "must", "how"] (spP (fChk K C C3 a_WAYS )) :=
  ok_def (N := nChk) (Φ := FChk K C C3 a_WAYS ) F scChk fun cdv A outer s H E hr => ⟨_, (ss_cons (sd_if (TwD.te (tw_and (te_cmp op_notN r2_notN (nomark _) (PuD.vi (pu_var (pv 1))) (PuD.vi (pu_c pe_non rfl))) (tw_and1 (te_not (te_tru (PuD.vi (pu_call hGd (hr.mono (by first | decide | omega)) (by rfl) (ar_cons (pu_var (pv 0)) (ar_cons (pu_var (pv 1)) ar_nil)))) (fun _ => rfl)))))) (ss_one sd_never) ss_nil) (ss_cons (sd_if (te_not (te_tru (PuD.vi (pu_isi isT_bool (by rfl) B.z_isinstance (by decide +kernel) (PuD.vi (pu_var (pv 2))) (pe_bltn (v := .ty "bool") (by rfl) B.z_bool (by decide +kernel) rfl))) (fun _ => rfl))) (ss_one sd_never) ss_nil) (ss_one (sd_if (te_cmp op_notIn_seq r2_inK (by with_unfolding_all rfl) (PuD.vi (pu_var (pv 3))) (PuD.vi (pu_c (pe_glob (v := .ref a_WAYS) (by rfl) G_WAYS rfl) rfl))) (ss_one sd_never) ss_nil))))⟩
abbrev sOby : Stmt := top 61
abbrev nOby : List Str := ["by", "most"]
theorem scOby : FnScope nOby ["by", "most"] (defScope sOby) := ⟨rfl, rfl, rfl, by decide +kernel, rfl, by decide +kernel, by decide +kernel⟩
def FOby : L2.Tr.Env → Option Out := (seqF (ifS (orB (asBF (bin2 (isN false) (atP 1) (kD (.leaf .non)))) (andB (truF (atP 0)) (asBF (bin2 (inD false) (bin2 ixD (atP 0) (negF (kD (.leaf (.int 1))))) (tupDisp (consD (kD (.leaf (.str "number"))) (consD (kD (.leaf (.str "-number"))) nilD))))))) (retF (atP 0)) skipF) (retF (tupDisp (starD (atP 0) (consD (kD (.leaf (.str "number"))) nilD)))))
def fOby (ds : List D) : Option D := if ds.length = (["by", "most"] : List Str).length then runF nOby.length (FOby ) ds else none
theorem okOby {f : Addr} {fd : FuncData} (F : Fun K "_ordered_by_number" "_ordered_by_number" sOby f fd) (B : TxB2 mg) : FnOk P w K mg base CX0 1 f fd ["by", "most"] (spP (fOby )) :=
  ok_def (N := nOby) (Φ := FOby ) F scOby fun cdv A outer s H E hr => ⟨_, (ss_cons (sd_if (TwD.te (tw_or (te_cmp op_isN r2_isN (nomark _) (PuD.vi (pu_var (pv 1))) (PuD.vi (pu_c pe_non rfl))) (tw_or1 (TwD.te (tw_and (te_tru (PuD.vi (pu_var (pv 0))) (fun _ => rfl)) (tw_and1 (te_cmp op_in_seq r2_in (by with_unfolding_all rfl) (PuD.vi (pu_ix (PuD.vi (pu_var (pv 0))) (PuD.vi (pu_neg (pu_c pe_int rfl))) (fun _ _ => rfl))) (PuD.vi (pu_tup (ar_cons (pu_c pe_str (by decide +kernel)) (ar_cons (pu_c pe_str (by decide +kernel)) ar_nil))))))))))) (ss_one (sd_ret (pu_var (pv 0)))) ss_nil) (ss_one (sd_ret (pu_tup (ar_star (pu_var (pv 0)) (ar_cons (pu_c pe_str (by decide +kernel)) ar_nil))))))⟩
abbrev sPInit : Stmt := inClass (top 46) 0
abbrev nPInit : List Str := ["self", "columns", "row", "when", "how", "thing"]
theorem scPInit : FnScope nPInit ["self", "columns", "row", "when", "how"] (defScope sPInit) := ⟨rfl, rfl, rfl, by decide +kernel, rfl, by decide +kernel, by decide +kernel⟩
def FPInit (K : PySem.W.Frag) (C C3 a_WAYS CP : Addr) : L2.Tr.Env → Option Out := (seqF (ifS (notB (truF (app1 (fCanP C) (consD (atP 1) (consD (atP 2) nilD))))) neverF skipF) (seqF (fun ρ => ((app1 (fChk K C C3 a_WAYS) (consD (atP 1) (consD (atP 3) (consD (kD (.leaf (.bl false))) (consD (atP 4) nilD))))) ρ).map fun _ => .nx ρ) (seqF (sfldF 0 CP "kind" (kD (.leaf (.str "put")))) (seqF (sfldF 0 CP "columns" (atP 1)) (seqF (sfldF 0 CP "row" (app1 tupD (consD (mapS (lcF [5] (seqsF (atP 2)) (setF 5) yesF (ifF (truF (isF isStr (atP 5))) (atP 5) (app1 tupD (consD (atP 5) nilD))))) nilD))) (seqF (sfldF 0 CP "when" (app1 fCog (consD (atP 3) nilD))) (seqF (sfldF 0 CP "must" (kD (.leaf (.bl false)))) (sfldF 0 CP "how" (atP 4)))))))))
def fPInit (K : PySem.W.Frag) (C C3 a_WAYS CP : Addr) (ds : List D) : Option (List Str × List D) := if ds.length + 1 = (["self", "columns", "row", "when", "how"] : List Str).length then initF nPInit.length CP (FPInit K C C3 a_WAYS CP ) ds else none
theorem okPInit {f : Addr} {fd : FuncData} {dvs : List V} {kws : List (Str × V)} (C C3 a_WAYS CP : Addr) (F : FunD K "__init__" "Put.__init__" (defArgs sPInit) (defBody sPInit) (defScope sPInit) dvs kws f fd) (B : TxB2 mg) (clp : Cls K CP) (p0 : NoAttr K CP "kind") (p1 : NoAttr K CP "columns") (p2 : NoAttr K CP "row") (p3 : NoAttr K CP "when") (p4 : NoAttr K CP "must") (p5 : NoAttr K CP "how") (hCP : Fn P w K mg base "_can_be_put" 3 2 (fCanP C)) (hCe : Fn P w K mg base "_check_end" 3 4 (fChk K C C3 a_WAYS)) (hCog : Fn P w K mg base "_copied_guard" 1 1 fCog) : FnOk P w K mg base CX0 6 f fd ["self", "columns", "row", "when", "how"] (spI CP (fPInit K C C3 a_WAYS CP )) :=
  ok_init (n0 := "self") (N := ["columns", "row", "when", "how", "thing"]) (C := CP) (Φ := FPInit K C C3 a_WAYS CP ) F scPInit fun cdv A outer s H E hr => ⟨_, (ss_cons (sd_if (te_not (te_tru (PuD.vi (pu_call hCP (hr.mono (by first | decide | omega)) (by rfl) (ar_cons (pu_var (pv 1)) (ar_cons (pu_var (pv 2)) ar_nil)))) (fun _ => rfl))) (ss_one sd_never) ss_nil) (ss_cons (sd_drop (pu_call hCe (hr.mono (by first | decide | omega)) (by rfl) (ar_cons (pu_var (pv 1)) (ar_cons (pu_var (pv 3)) (ar_cons (pu_c pe_bl rfl) (ar_cons (pu_var (pv 4)) ar_nil)))))) (ss_cons (sd_fld (i := 0) clp p0 (pv 0) (pu_c pe_str (by decide +kernel))) (ss_cons (sd_fld (i := 0) clp p1 (pv 0) (pu_var (pv 1))) (ss_cons (sd_fld (i := 0) clp p2 (pv 0) (pu_cty call_tuple_of r1_tup (by rfl) B.z_tuple (by decide +kernel) (av_cons (PuD.vi (OwD.pu (LcD.ow (lc0 [("thing", 5)] (it_seq (pu_var (pv 2))) (blkOk_by (N := nPInit) (sc := defScope sPInit) (by decide +kernel)) (fun _ _ _ _ _ => (tg_name (pg_name (i := 5) scPInit.nd rfl (Or.inl rfl)))) (fun _ _ _ _ _ => (tw_name (by decide))) (fun _ _ _ _ _ => (pu_if (te_tru (PuD.vi (pu_isi isT_str (by rfl) B.z_isinstance (by decide +kernel) (PuD.vi (pu_var (pv 5))) (pe_bltn (v := .ty "str") (by rfl) B.z_str (by decide +kernel) rfl))) (fun _ => rfl)) (pu_var (pv 5)) (pu_cty call_tuple_of r1_tup (by rfl) B.z_tuple (by decide +kernel) (av_cons (PuD.vi (pu_var (pv 5))) av_nil))))) rfl scPInit.nd))) av_nil))) (ss_cons (sd_fld (i := 0) clp p3 (pv 0) (pu_call hCog (hr.mono (by first | decide | omega)) (by rfl) (ar_cons (pu_var (pv 3)) ar_nil))) (ss_cons (sd_fld (i := 0) clp p4 (pv 0) (pu_c pe_bl rfl)) (ss_one (sd_fld (i := 0) clp p5 (pv 0) (pu_var (pv 4)))))))))))⟩
abbrev sDInit : Stmt := inClass (top 47) 0
abbrev nDInit : List Str := ["self", "look", "most", "by", "when", "must", "how"]
theorem scDInit : FnScope nDInit ["self", "look", "most", "by", "when", "must", "how"] (defScope sDInit) := ⟨rfl, rfl, rfl, by decide +kernel, rfl, by decide +kernel, by decide +kernel⟩
def FDInit (K : PySem.W.Frag) (C C3 a_WAYS CD : Addr) : L2.Tr.Env → Option Out := (seqF (ifS (notB (truF (isF (isCls C3) (atP 1)))) neverF skipF) (seqF (ifS (andB (asBF (bin2 (isN true) (atP 2) (kD (.leaf .non)))) (notB (andB (truF (app1 fIsNu (consD (atP 2) nilD))) (asBF (chainF (intI fun i j => .bl (decide (i ≤ j))) (intI fun i j => .bl (decide (i ≤ j))) (kD (.leaf (.int 1))) (atP 2) (kD (.leaf (.int 2)))))))) neverF skipF) (seqF (fun ρ => ((app1 (fChO K C) (consD (fldF C3 "columns" (atP 1)) (consD (atP 3) (consD (atP 2) nilD)))) ρ).map fun _ => .nx ρ) (seqF (fun ρ => ((app1 (fChk K C C3 a_WAYS) (consD (fldF C3 "columns" (atP 1)) (consD (atP 4) (consD (atP 5) (consD (atP 6) nilD))))) ρ).map fun _ => .nx ρ) (seqF (sfldF 0 CD "kind" (kD (.leaf (.str "drop")))) (seqF (sfldF 0 CD "columns" (fldF C3 "columns" (atP 1))) (seqF (sfldF 0 CD "look" (atP 1)) (seqF (sfldF 0 CD "most" (atP 2)) (seqF (sfldF 0 CD "by" (app1 (tupA K) (consD (atP 3) nilD))) (seqF (sfldF 0 CD "when" (app1 fCog (consD (atP 4) nilD))) (seqF (sfldF 0 CD "must" (atP 5)) (sfldF 0 CD "how" (atP 6)))))))))))))
def fDInit (K : PySem.W.Frag) (C C3 a_WAYS CD : Addr) (ds : List D) : Option (List Str × List D) := if ds.length + 1 = (["self", "look", "most", "by", "when", "must", "how"] : List Str).length then initF nDInit.length CD (FDInit K C C3 a_WAYS CD ) ds else none
theorem okDInit {f : Addr} {fd : FuncData} {dvs : List V} {kws : List (Str × V)} (C C3 a_WAYS CD : Addr) (F : FunD K "__init__" "Drop.__init__" (defArgs sDInit) (defBody sDInit) (defScope sDInit) dvs kws f fd) (B : TxB2 mg) (cld : Cls K CD) (d0 : NoAttr K CD "kind") (d1 : NoAttr K CD "columns") (d2 : NoAttr K CD "look") (d3 : NoAttr K CD "most") (d4 : NoAttr K CD "by") (d5 : NoAttr K CD "when") (d6 : NoAttr K CD "must") (d7 : NoAttr K CD "how") (clL : Cls K C3) (m1 : NoAttr K C3 "columns") (oc : OwnC K C3) (G_Look : mg "Look" = some (.ref C3)) {tkM : Tok} (G_MOST_TAKEN : mg "MOST_TAKEN" = some (.int 2 tkM)) (hNu : Fn P w K mg base "is_number" 1 1 fIsNu) (hCo : Fn P w K mg base "_check_order" 4 3 (fChO K C)) (hCe : Fn P w K mg base "_check_end" 3 4 (fChk K C C3 a_WAYS)) (hCog : Fn P w K mg base "_copied_guard" 1 1 fCog) : FnOk P w K mg base CX0 6 f fd ["self", "look", "most", "by", "when", "must", "how"] (spI CD (fDInit K C C3 a_WAYS CD )) :=
  ok_init (n0 := "self") (N := ["look", "most", "by", "when", "must", "how"]) (C := CD) (Φ := FDInit K C C3 a_WAYS CD ) F scDInit fun cdv A outer s H E hr => ⟨_, (ss_cons (sd_if (te_not (te_tru (PuD.vi (pu_isiC (isT_cls oc) (by rfl) B.z_isinstance (by decide +kernel) (PuD.vi (pu_var (pv 1))) (pe_glob (by rfl) G_Look rfl))) (fun _ => rfl))) (ss_one sd_never) ss_nil) (ss_cons (sd_if (TwD.te (tw_and (te_cmp op_notN r2_notN (nomark _) (PuD.vi (pu_var (pv 2))) (PuD.vi (pu_c pe_non rfl))) (tw_and1 (te_not (TwD.te (tw_and (te_tru (PuD.vi (pu_call hNu (hr.mono (by first | decide | omega)) (by rfl) (ar_cons (pu_var (pv 2)) ar_nil))) (fun _ => rfl)) (tw_and1 (te_chain op_le op_le (r2_I0 fun _ _ => rfl) (r2_I0 fun _ _ => rfl) (PuD.vi (pu_c pe_int rfl)) (PuD.vi (pu_var (pv 2))) (PuD.vi (pu_c (pe_glob (v := .int 2) (by rfl) G_MOST_TAKEN ⟨_, rfl⟩) (by decide +kernel))))))))))) (ss_one sd_never) ss_nil) (ss_cons (sd_drop (pu_call hCo (hr.mono (by first | decide | omega)) (by rfl) (ar_cons (pu_fld clL m1 (PuD.vi (pu_var (pv 1)))) (ar_cons (pu_var (pv 3)) (ar_cons (pu_var (pv 2)) ar_nil))))) (ss_cons (sd_drop (pu_call hCe (hr.mono (by first | decide | omega)) (by rfl) (ar_cons (pu_fld clL m1 (PuD.vi (pu_var (pv 1)))) (ar_cons (pu_var (pv 4)) (ar_cons (pu_var (pv 5)) (ar_cons (pu_var (pv 6)) ar_nil)))))) (ss_cons (sd_fld (i := 0) cld d0 (pv 0) (pu_c pe_str (by decide +kernel))) (ss_cons (sd_fld (i := 0) cld d1 (pv 0) (pu_fld clL m1 (PuD.vi (pu_var (pv 1))))) (ss_cons (sd_fld (i := 0) cld d2 (pv 0) (pu_var (pv 1))) (ss_cons (sd_fld (i := 0) cld d3 (pv 0) (pu_var (pv 2))) (ss_cons (sd_fld (i := 0) cld d4 (pv 0) (pu_cty (CallR.or call_tuple_of call_tuple_of) (R1D.or r1_tup r1_tupK) (by rfl) B.z_tuple (by decide +kernel) (av_cons (PuD.vi (pu_var (pv 3))) av_nil))) (ss_cons (sd_fld (i := 0) cld d5 (pv 0) (pu_call hCog (hr.mono (by first | decide | omega)) (by rfl) (ar_cons (pu_var (pv 4)) ar_nil))) (ss_cons (sd_fld (i := 0) cld d6 (pv 0) (pu_var (pv 5))) (ss_one (sd_fld (i := 0) cld d7 (pv 0) (pu_var (pv 6)))))))))))))))⟩
abbrev sCInit : Stmt := inClass (top 48) 0
abbrev nCInit : List Str := ["self", "look", "changes", "by", "when", "must", "how", "most"]
theorem scCInit : FnScope nCInit ["self", "look", "changes", "by", "when", "must", "how"] (defScope sCInit) := ⟨rfl, rfl, rfl, by decide +kernel, rfl, by decide +kernel, by decide +kernel⟩
def FCInit (K : PySem.W.Frag) (C C3 a_WAYS CH : Addr) : L2.Tr.Env → Option Out := (seqF (ifS (notB (truF (isF (isCls C3) (atP 1)))) neverF skipF) (seqF (ifS (notB (truF (app1 (fArc C) (consD (fldF C3 "columns" (atP 1)) (consD (atP 2) nilD))))) neverF skipF) (seqF (asgF (ifF (truF (isF isDctZ (atP 2))) (kD (.leaf .non)) (app1 lenA (consD (atP 2) nilD))) (setF 7)) (seqF (fun ρ => ((app1 (fChO K C) (consD (fldF C3 "columns" (atP 1)) (consD (atP 3) (consD (atP 7) nilD)))) ρ).map fun _ => .nx ρ) (seqF (fun ρ => ((app1 (fChk K C C3 a_WAYS) (consD (fldF C3 "columns" (atP 1)) (consD (atP 4) (consD (atP 5) (consD (atP 6) nilD))))) ρ).map fun _ => .nx ρ) (seqF (sfldF 0 CH "kind" (kD (.leaf (.str "change")))) (seqF (sfldF 0 CH "columns" (fldF C3 "columns" (atP 1))) (seqF (sfldF 0 CH "look" (atP 1)) (seqF (sfldF 0 CH "changes" (app1 fCos (consD (atP 2) nilD))) (seqF (sfldF 0 CH "most" (atP 7)) (seqF (sfldF 0 CH "by" (app1 (tupA K) (consD (atP 3) nilD))) (seqF (sfldF 0 CH "when" (app1 fCog (consD (atP 4) nilD))) (seqF (sfldF 0 CH "must" (atP 5)) (sfldF 0 CH "how" (atP 6)))))))))))))))
def fCInit (K : PySem.W.Frag) (C C3 a_WAYS CH : Addr) (ds : List D) : Option (List Str × List D) := if ds.length + 1 = (["self", "look", "changes", "by", "when", "must", "how"] : List Str).length then initF nCInit.length CH (FCInit K C C3 a_WAYS CH ) ds else none
theorem okCInit {f : Addr} {fd : FuncData} {dvs : List V} {kws : List (Str × V)} (C C3 a_WAYS CH : Addr) (F : FunD K "__init__" "Change.__init__" (defArgs sCInit) (defBody sCInit) (defScope sCInit) dvs kws f fd) (B : TxB2 mg) (clh : Cls K CH) (h0 : NoAttr K CH "kind") (h1 : NoAttr K CH "columns") (h2 : NoAttr K CH "look") (h3 : NoAttr K CH "changes") (h4 : NoAttr K CH "most") (h5 : NoAttr K CH "by") (h6 : NoAttr K CH "when") (h7 : NoAttr K CH "must") (h8 : NoAttr K CH "how") (clL : Cls K C3) (m1 : NoAttr K C3 "columns") (oc : OwnC K C3) (G_Look : mg "Look" = some (.ref C3)) (hArc : Fn P w K mg base "_are_changes" 5 2 (fArc C)) (hCos : Fn P w K mg base "_copied_changes" 2 1 fCos) (hCo : Fn P w K mg base "_check_order" 4 3 (fChO K C)) (hCe : Fn P w K mg base "_check_end" 3 4 (fChk K C C3 a_WAYS)) (hCog : Fn P w K mg base "_copied_guard" 1 1 fCog) : FnOk P w K mg base CX0 6 f fd ["self", "look", "changes", "by", "when", "must", "how"] (spI CH (fCInit K C C3 a_WAYS CH )) :=
  ok_init (n0 := "self") (N := ["look", "changes", "by", "when", "must", "how", "most"]) (C := CH) (Φ := FCInit K C C3 a_WAYS CH ) F scCInit fun cdv A outer s H E hr => ⟨_, (ss_cons (sd_if (te_not (te_tru (PuD.vi (pu_isiC (isT_cls oc) (by rfl) B.z_isinstance (by decide +kernel) (PuD.vi (pu_var (pv 1))) (pe_glob (by rfl) G_Look rfl))) (fun _ => rfl))) (ss_one sd_never) ss_nil) (ss_cons (sd_if (te_not (te_tru (PuD.vi (pu_call hArc (hr.mono (by first | decide | omega)) (by rfl) (ar_cons (pu_fld clL m1 (PuD.vi (pu_var (pv 1)))) (ar_cons (pu_var (pv 2)) ar_nil)))) (fun _ => rfl))) (ss_one sd_never) ss_nil) (ss_cons (sd_nm (pu_if (te_tru (PuD.vi (pu_isi isT_dctZ (by rfl) B.z_isinstance (by decide +kernel) (PuD.vi (pu_var (pv 2))) (pe_bltn (v := .ty "dict") (by rfl) B.z_dict (by decide +kernel) rfl))) (fun _ => rfl)) (pu_c pe_non rfl) (pu_cb (CallR.or call_len call_lenD) (R1D.or r1_len r1_lenK) (by rfl) B.z_len (by decide +kernel) (av_cons (PuD.vi (pu_var (pv 2))) av_nil))) (fun h => ps_set (i := 7) scCInit.nd rfl (by first | exact Or.inl rfl | exact Or.inr rfl) h)) (ss_cons (sd_drop (pu_call hCo (hr.mono (by first | decide | omega)) (by rfl) (ar_cons (pu_fld clL m1 (PuD.vi (pu_var (pv 1)))) (ar_cons (pu_var (pv 3)) (ar_cons (pu_var (pv 7)) ar_nil))))) (ss_cons (sd_drop (pu_call hCe (hr.mono (by first | decide | omega)) (by rfl) (ar_cons (pu_fld clL m1 (PuD.vi (pu_var (pv 1)))) (ar_cons (pu_var (pv 4)) (ar_cons (pu_var (pv 5)) (ar_cons (pu_var (pv 6)) ar_nil)))))) (ss_cons (sd_fld (i := 0) clh h0 (pv 0) (pu_c pe_str (by decide +kernel))) (ss_cons (sd_fld (i := 0) clh h1 (pv 0) (pu_fld clL m1 (PuD.vi (pu_var (pv 1))))) (ss_cons (sd_fld (i := 0) clh h2 (pv 0) (pu_var (pv 1))) (ss_cons (sd_fld (i := 0) clh h3 (pv 0) (pu_call hCos (hr.mono (by first | decide | omega)) (by rfl) (ar_cons (pu_var (pv 2)) ar_nil))) (ss_cons (sd_fld (i := 0) clh h4 (pv 0) (pu_var (pv 7))) (ss_cons (sd_fld (i := 0) clh h5 (pv 0) (pu_cty (CallR.or call_tuple_of call_tuple_of) (R1D.or r1_tup r1_tupK) (by rfl) B.z_tuple (by decide +kernel) (av_cons (PuD.vi (pu_var (pv 3))) av_nil))) (ss_cons (sd_fld (i := 0) clh h6 (pv 0) (pu_call hCog (hr.mono (by first | decide | omega)) (by rfl) (ar_cons (pu_var (pv 4)) ar_nil))) (ss_cons (sd_fld (i := 0) clh h7 (pv 0) (pu_var (pv 5))) (ss_one (sd_fld (i := 0) clh h8 (pv 0) (pu_var (pv 6)))))))))))))))))⟩
end
end L2.K1

/-! Trees: == of tuples whose first elements are unlike; of what follows nothing is wanted. -/
namespace L2.Tr
open PySem PySem.Spec PyProof.Rows
section
variable {X : Cx} {n m : Nat} {q q' : D → D → Option Bool}
def rEqFst (q : D → D → Option Bool) : R2 := fun x y H Q => ∃ d ds e es, nr d = true ∧ nr e = true ∧ Rep H (.seq false (d :: ds)) x ∧ Rep H (.seq false (e :: es)) y ∧ q d e = some false ∧ ∀ H', Ex H H' → Q (.bl false) H'
def eqFst (q : D → D → Option Bool) : D → D → Option D
  | .seq false (d :: ds), .seq false (e :: es) => if nr d = true ∧ nr e = true ∧ q d e = some false then some (bD false) else none
  | _, _ => none
end
end L2.Tr

namespace L2.K1
open PySem PySem.Spec PyProof.Rows L2.Tr
/-! list(zip(a, b)) of two lists, over the raw heap. -/
namespace L2.Zl
open PySem PyProof PySem.W PySem.F
open PySem.Sem (wp)
/-- a zip over two lists stands at i -/
structure ZAt (h : Heap) (z TI TO i1 i2 l1 l2 B : Addr) (xs ys : Array Value) (i : Nat) : Prop where
  ti : IsPair h TI (.ref i1) (.ref i2)
  a1 : h.IsListIter i1 l1 i
  a2 : h.IsListIter i2 l2 i
  b1 : h.IsList l1 xs
  b2 : h.IsList l2 ys
  st : (IsZip h z TI TO .none ∧ ∃ a b, IsPair h TO a b) ∨ ∃ T f oT, IsZipHeld h z TI TO T f ∧ h.get? T = some oT ∧ Nat.le B T
theorem ZAt.keep {h h' : Heap} {z TI TO i1 i2 l1 l2 B : Addr} {xs ys : Array Value} {i : Nat} (x : ZAt h z TI TO i1 i2 l1 l2 B xs ys i)
    (k : ∀ c o, (c = z ∨ c = TI ∨ c = TO ∨ c = i1 ∨ c = i2 ∨ c = l1 ∨ c = l2 ∨ Nat.le B c) → h.get? c = some o → h'.get? c = some o) : ZAt h' z TI TO i1 i2 l1 l2 B xs ys i where
  ti := k TI _ (by simp) x.ti
  a1 := x.a1.at fun o => k i1 o (by simp)
  a2 := x.a2.at fun o => k i2 o (by simp)
  b1 := x.b1.at fun o => k l1 o (by simp)
  b2 := x.b2.at fun o => k l2 o (by simp)
  st := by
    rcases x.st with ⟨h1, a, b, h2⟩ | ⟨T, f, oT, h1, h2, h3⟩
    · exact .inl ⟨k z _ (by simp) h1, a, b, k TO _ (by simp) h2⟩
    · exact .inr ⟨T, f, oT, k z _ (by simp) h1, k T _ (.inr (.inr (.inr (.inr (.inr (.inr (.inr h3))))))) h2, h3⟩
section
variable {prog : Program} {w : World} {A : Around} {E : Value → Shared → Prop} {s : Shared} {z TI TO i1 i2 l1 l2 B S : Addr} {xs ys : Array Value} {i : Nat}
theorem ne_ge {a b c : Addr} (h : Nat.lt a b) (k : Nat.le b c) : c ≠ a := fun e => by
  subst e
  exact Nat.lt_irrefl _ (Nat.lt_of_lt_of_le h k)
theorem z_item (D : ZipApart z TI TO i1 i2 l1 l2) (lz : Nat.lt z B) (lo : Nat.lt TO B) (l3 : Nat.lt i1 B) (l4 : Nat.lt i2 B) (x : ZAt s.heap z TI TO i1 i2 l1 l2 B xs ys i) {u v : Value} (hx : xs[i]? = some u) (hy : ys[i]? = some v) (hB : Nat.le B s.heap.objs.size) {Q : Option Value → Shared → Prop}
    (hQ : ∀ h' : Heap, ZAt h' z TI TO i1 i2 l1 l2 B xs ys (i + 1) → IsPair h' s.heap.objs.size u v → h'.objs.size = s.heap.objs.size + 1 → (∀ c o, c ≠ z → c ≠ TO → c ≠ i1 → c ≠ i2 → s.heap.get? c = some o → h'.get? c = some o) → Q (some (.ref s.heap.objs.size)) { s with heap := h' }) :
    wpAny (model prog w) A (pyNext (.ref z)) Q E s := by
  obtain ⟨q1, q2, q3, q4, q5, q6, q7, q8, q9, q10, q11, q12, q13, q14, q15, q16, q17, q18⟩ := id D
  rcases x.st with ⟨h1, a, b, h2⟩ | ⟨T, f, oT, h1, h2, h3⟩
  · exact wpAny_pyNext_zip_item D h1 x.ti h2 x.a1 x.a2 x.b1 x.b2 hx hy fun h' z' TO' a1 a2 hp hsz hk =>
      hQ h' ⟨hk TI _ q1 q5 q6 q7 x.ti, a1, a2, x.b1.at fun o => hk l1 o q11 q12 q13 q14, x.b2.at fun o => hk l2 o q15 q16 q17 q18, .inr ⟨_, false, _, z', hp, hB⟩⟩ hp hsz hk
  · exact wpAny_pyNext_zip_item_held D h1 h2 x.ti x.a1 x.a2 x.b1 x.b2 hx hy fun h' z' a1 a2 hp hsz hk =>
      hQ h' ⟨hk TI _ q1 q6 q7 x.ti, a1, a2, x.b1.at fun o => hk l1 o q11 q13 q14, x.b2.at fun o => hk l2 o q15 q17 q18, .inr ⟨T, true, oT, z', hk T _ (ne_ge lz h3) (ne_ge l3 h3) (ne_ge l4 h3) h2, h3⟩⟩ hp hsz fun c o n1 _ n3 n4 e => hk c o n1 n3 n4 e
theorem z_done (hh : A.handled = none) (D : ZipApart z TI TO i1 i2 l1 l2) (x : ZAt s.heap z TI TO i1 i2 l1 l2 B xs ys i) (he : xs[i]? = none ∨ ys[i]? = none) {Q : Option Value → Shared → Prop}
    (hQ : ∀ h' : Heap, (∀ c o, c ≠ z → c ≠ TO → c ≠ i1 → c ≠ i2 → s.heap.get? c = some o → h'.get? c = some o) → Q none { s with heap := h' }) :
    wpAny (model prog w) A (pyNext (.ref z)) Q E s := by
  rcases x.st with ⟨h1, a, b, h2⟩ | ⟨T, f, oT, h1, h2, h3⟩
  · exact wpAny_pyNext_zip_end hh D h1 x.ti h2 x.a1 x.a2 x.b1 x.b2 he hQ
  · exact wpAny_pyNext_zip_end_held hh D h1 h2 x.ti x.a1 x.a2 x.b1 x.b2 he fun h' hk => hQ h' fun c o n1 _ n3 n4 e => hk c o n1 n3 n4 e
/-- the pairs given out so far -/
def Outs (h : Heap) (B : Addr) (xs ys : Array Value) (as : List Addr) : Prop := ∀ (j : Nat) (T : Addr), as[j]? = some T → Nat.le B T ∧ ∃ u v, xs[j]? = some u ∧ ys[j]? = some v ∧ IsPair h T u v
theorem Outs.keep {h h' : Heap} {as : List Addr} (x : Outs h B xs ys as) (k : ∀ c o, Nat.le B c → h.get? c = some o → h'.get? c = some o) : Outs h' B xs ys as := fun j T hj => by
  obtain ⟨h1, u, v, h2, h3, h4⟩ := x j T hj
  exact ⟨h1, u, v, h2, h3, k T _ h1 h4⟩
theorem z_loop {R : Result → Shared → Prop} (hh : A.handled = none) (D : ZipApart z TI TO i1 i2 l1 l2) (lz : Nat.lt z S) (lo : Nat.lt TO S) (l3 : Nat.lt i1 S) (l4 : Nat.lt i2 S) (l5 : Nat.lt l1 S) (l6 : Nat.lt l2 S) (l7 : Nat.lt TI S) (lim : min xs.size ys.size ≤ sizeLine) (res : Value) :
    ∀ (k i : Nat) (s : Shared) (acc : Array Value) (c : Nat) (as : List Addr), min xs.size ys.size - i = k → i ≤ min xs.size ys.size → ZAt s.heap z TI TO i1 i2 l1 l2 (S + 1) xs ys i → s.heap.get? S = some { cls := .type "list", data := .seq acc c } →
      acc.toList = as.map .ref → as.length = i → Outs s.heap (S + 1) xs ys as → Nat.le (S + 1) s.heap.objs.size →
      (∀ (h' : Heap) (acc' : Array Value) (c' : Nat) (as' : List Addr), (∀ b o, b ≠ S → b ≠ z → b ≠ TO → b ≠ i1 → b ≠ i2 → s.heap.get? b = some o → h'.get? b = some o) → h'.get? S = some { cls := .type "list", data := .seq acc' c' } →
        acc'.toList = as'.map .ref → as'.length = min xs.size ys.size → Outs h' (S + 1) xs ys as' → R (.ok (.ret res)) { s with heap := h' }) →
      codeAny (model prog w) A (.builtin "list.extend.loop" { pos := [.ref S, .ref z, res] }) R s := by
  have nS : ∀ {a : Addr}, Nat.lt a S → S ≠ a := fun h e => by
    subst e
    exact Nat.lt_irrefl _ h
  have up : ∀ {a : Addr}, Nat.lt a S → Nat.lt a (S + 1) := fun h => Nat.lt_succ_of_lt h
  intro k
  induction k with
  | zero =>
    intro i s acc c as hk hi x hS hacc has ho hB hR
    refine codeAny_builtin entry_extend_loop ?_
    unfold Builtin.«list.extend.loop»
    refine wpAny_bind (z_done (show (A.under _).handled = none from hh) D x ?_ fun h' kk => ?_)
    · have : xs.size ≤ i ∨ ys.size ≤ i := by omega
      rcases this with q | q
      · exact .inl (Array.getElem?_eq_none q)
      · exact .inr (Array.getElem?_eq_none q)
    · refine wpAny_pure (hR h' acc c as (fun b o _ n1 n2 n3 n4 e => kk b o n1 n2 n3 n4 e) (kk S _ (nS lz) (nS lo) (nS l3) (nS l4) hS) hacc (by omega) (ho.keep fun c o hc => kk c o (ne_ge (up lz) hc) (ne_ge (up lo) hc) (ne_ge (up l3) hc) (ne_ge (up l4) hc)))
  | succ k ih =>
    intro i s acc c as hk hi x hS hacc has ho hB hR
    have g1 : i < xs.size := by omega
    have g2 : i < ys.size := by omega
    refine codeAny_builtin entry_extend_loop ?_
    unfold Builtin.«list.extend.loop»
    refine wpAny_bind (z_item D (up lz) (up lo) (up l3) (up l4) x (Array.getElem?_eq_getElem g1) (Array.getElem?_eq_getElem g2) hB fun h' x' hp hsz kk => ?_)
    have hS' := kk S _ (nS lz) (nS lo) (nS l3) (nS l4) hS
    have hl : acc.size = i := by rw [← Array.length_toList, hacc, List.length_map, has]
    have upd := Heap.get?_update_self (Obj.mapSeq fun x_1 => x_1.push (.ref s.heap.objs.size)) hS' rfl
    refine wpAny_bind (wpAny_updateSeq hS' rfl ?_ (by omega) (by rw [Array.size_push]; omega))
    refine wpAny_pure ⟨plainId_quiet plain_extend_loop _, ?_⟩
    have k2 : ∀ c o, c ≠ S → h'.get? c = some o → (h'.update S (Obj.mapSeq fun x_1 => x_1.push (.ref s.heap.objs.size))).get? c = some o := fun c o n e => by
      rw [Heap.get?_update_ne _ _ _ _ n]; exact e
    refine ih (i + 1) _ _ _ (as ++ [s.heap.objs.size]) (by omega) (by omega) (x'.keep fun c o hc => k2 c o ?_) upd ?_ (by simp [has]) ?_ ?_ fun h'' acc' c' as' k3 z1 z2 z3 z4 => hR h'' acc' c' as' (fun b o n0 n1 n2 n3 n4 e => k3 b o n0 n1 n2 n3 n4 (k2 b o n0 (kk b o n1 n2 n3 n4 e))) z1 z2 z3 z4
    · rcases hc with q | q | q | q | q | q | q | q
      · rw [q]; exact (nS lz).symm
      · rw [q]; exact (nS l7).symm
      · rw [q]; exact (nS lo).symm
      · rw [q]; exact (nS l3).symm
      · rw [q]; exact (nS l4).symm
      · rw [q]; exact (nS l5).symm
      · rw [q]; exact (nS l6).symm
      · exact ne_ge (Nat.lt_succ_self S) q
    · rw [Array.toList_push, hacc, List.map_append]; rfl
    · intro j T hj
      rcases Nat.lt_or_ge j as.length with q | q
      · rw [List.getElem?_append_left q] at hj
        obtain ⟨h1, u, v, h2, h3, h4⟩ := ho j T hj
        exact ⟨h1, u, v, h2, h3, k2 T _ (ne_ge (Nat.lt_succ_self S) h1) (kk T _ (ne_ge (up lz) h1) (ne_ge (up lo) h1) (ne_ge (up l3) h1) (ne_ge (up l4) h1) h4)⟩
      · rw [List.getElem?_append_right q] at hj
        have e : j = i := by
          have := (List.getElem?_eq_some_iff.mp hj).1
          simp at this
          omega
        subst e
        rw [has, Nat.sub_self] at hj
        cases hj
        exact ⟨hB, _, _, Array.getElem?_eq_getElem g1, Array.getElem?_eq_getElem g2, k2 _ _ (ne_ge (Nat.lt_succ_self S) hB) hp⟩
    · rw [Heap.size_update, hsz]; exact Nat.le_succ_of_le hB
theorem z_type (h : IsZip s.heap z TI TO .none) : s.TypeIs (.ref z) "zip" := ⟨_, h, rfl⟩
theorem z_extend {A1 : Around} {R : Result → Shared → Prop} (hh : A.handled = none) (hh1 : A1.handled = none) (D : ZipApart z TI TO i1 i2 l1 l2) (lz : Nat.lt z S) (lo : Nat.lt TO S) (l3 : Nat.lt i1 S) (l4 : Nat.lt i2 S) (l5 : Nat.lt l1 S) (l6 : Nat.lt l2 S) (l7 : Nat.lt TI S) (lim : min xs.size ys.size ≤ sizeLine) (res : Value)
    {c : Nat} (hz : IsZip s.heap z TI TO .none) (x : ZAt s.heap z TI TO i1 i2 l1 l2 (S + 1) xs ys 0) (hS : s.heap.get? S = some { cls := .type "list", data := .seq #[] c }) (hB : Nat.le (S + 1) s.heap.objs.size)
    (hR : ∀ (h' : Heap) (acc' : Array Value) (c' : Nat) (as' : List Addr), (∀ b o, b ≠ S → b ≠ z → b ≠ TO → b ≠ i1 → b ≠ i2 → s.heap.get? b = some o → h'.get? b = some o) → h'.get? S = some { cls := .type "list", data := .seq acc' c' } →
        acc'.toList = as'.map .ref → as'.length = min xs.size ys.size → Outs h' (S + 1) xs ys as' → R (.ok (.ret res)) { s with heap := h' }) :
    wpAny (model prog w) A1 (Builtin.List.listExtendWith (.ref S) (.ref z) res) (fun fin s' => match fin with
      | .done f => R (.ok f) s'
      | .again c' => c'.quiet = true ∧ codeAny (model prog w) A c' R s') (fun e s' => R (.error e) s') s := by
  have nS : ∀ {a : Addr}, Nat.lt a S → S ≠ a := fun h e => by
    subst e
    exact Nat.lt_irrefl _ h
  unfold Builtin.List.listExtendWith
  refine wpAny_bind (wpAny_typeOf (z_type hz) ?_)
  refine wpAny_ite_split (fun e => ?_) fun _ => ?_
  · exfalso
    have e2 : (Builtin.List.listSameRef (.ref S) (.ref z)) = false := by
      unfold Builtin.List.listSameRef
      simp [nS lz]
    rw [e2] at e
    revert e
    decide
  refine wpAny_bind (wpAny_pyIter_zip hz ?_)
  refine wpAny_bind (wpAny_holding ?_)
  unfold Builtin.List.listLengthHint
  refine wpAny_bind (wpAny_specialOf (r := none) (z_type hz) (by rfl) ?_)
  refine wpAny_bind (wpAny_specialOf (r := none) (z_type hz) (by rfl) ?_)
  refine wpAny_pure ?_
  rw [Bool.true_or, if_pos rfl]
  refine wpAny_bind (wpAny_rule ?_)
  unfold Builtin.List.listTouch Builtin.List.listUpdate
  have h1 := Heap.get?_update_self (Obj.mapSeq fun x => x.push Value.none) hS rfl
  have h2 := Heap.get?_update_self (Obj.mapSeq fun x => x.pop) h1 rfl
  refine wpAny_bind (wpAny_bind (wpAny_updateSeq hS rfl ?_ (by decide) (by decide)))
  refine wpAny_updateSeq h1 rfl ?_ (by show _ ≤ _; decide) (by show _ ≤ _; decide)
  have kp : ∀ c o, c ≠ S → s.heap.get? c = some o → ((s.heap.update S (Obj.mapSeq fun x => x.push Value.none)).update S (Obj.mapSeq fun x => x.pop)).get? c = some o := fun c o n e => by
    rw [Heap.get?_update_ne _ _ _ _ n, Heap.get?_update_ne _ _ _ _ n]; exact e
  refine wpAny_pure ⟨plainId_quiet plain_extend_loop _, ?_⟩
  refine z_loop hh D lz lo l3 l4 l5 l6 l7 lim res _ 0 _ #[] _ [] rfl (Nat.zero_le _) (x.keep fun c o hc => kp c o ?_) h2 rfl rfl (fun j T hj => by simp at hj) (by rw [Heap.size_update, Heap.size_update]; exact hB) fun h' acc' c' as' k3 y1 y2 y3 y4 => hR h' acc' c' as' (fun b o n0 n1 n2 n3 n4 e => k3 b o n0 n1 n2 n3 n4 (kp b o n0 e)) y1 y2 y3 y4
  rcases hc with q | q | q | q | q | q | q | q
  · rw [q]; exact (nS lz).symm
  · rw [q]; exact (nS l7).symm
  · rw [q]; exact (nS lo).symm
  · rw [q]; exact (nS l3).symm
  · rw [q]; exact (nS l4).symm
  · rw [q]; exact (nS l5).symm
  · rw [q]; exact (nS l6).symm
  · exact ne_ge (Nat.lt_succ_self S) q
theorem call_list_zip {Q : Value → Shared → Prop} (hh : A.handled = none) (D : ZipApart z TI TO i1 i2 l1 l2) (lz : Nat.lt z s.heap.objs.size) (lo : Nat.lt TO s.heap.objs.size) (l3 : Nat.lt i1 s.heap.objs.size) (l4 : Nat.lt i2 s.heap.objs.size) (l5 : Nat.lt l1 s.heap.objs.size) (l6 : Nat.lt l2 s.heap.objs.size) (l7 : Nat.lt TI s.heap.objs.size) (lim : min xs.size ys.size ≤ sizeLine)
    (hz : IsZip s.heap z TI TO .none) (x : ZAt s.heap z TI TO i1 i2 l1 l2 (s.heap.objs.size + 1) xs ys 0)
    (hQ : ∀ (h' : Heap) (acc : Array Value) (c : Nat) (as : List Addr), (∀ b o, b ≠ z → b ≠ TO → b ≠ i1 → b ≠ i2 → s.heap.get? b = some o → h'.get? b = some o) → h'.get? s.heap.objs.size = some { cls := .type "list", data := .seq acc c } →
        acc.toList = as.map .ref → as.length = min xs.size ys.size → Outs h' (s.heap.objs.size + 1) xs ys as → Q (.ref s.heap.objs.size) { s with heap := h' }) :
    wpAny (model prog w) A (call (.type "list") [.ref z]) Q E s := by
  have kp : ∀ c o, s.heap.get? c = some o → (s.heap.push { cls := .type "list", data := .seq #[] }).get? c = some o := fun c o e => Heap.get?_push_of_some _ e
  have gS : (s.heap.push { cls := .type "list", data := .seq #[] }).get? s.heap.objs.size = some { cls := .type "list", data := .seq #[] } := Heap.get?_push_size _ rfl
  refine callType_codes (Q₁ := fun ob t => ob = .ref s.heap.objs.size ∧ t = { s with heap := s.heap.push { cls := .type "list", data := .seq #[] } }) called_list (typeCall_list_1 _) entry_list_init (code_list_new _ ⟨rfl, rfl⟩) fun obj s1 hq => ?_
  obtain ⟨rfl, rfl⟩ := hq
  refine ⟨⟨_, gS, rfl⟩, args_list_init_2 _ _, ?_⟩
  unfold Builtin.«list.__init__»
  refine wpAny_ite_split (fun e => absurd e (by simp)) fun _ => ?_
  refine wpAny_ite_split (fun e => absurd e (by simp)) fun _ => ?_
  unfold Builtin.List.listItems Builtin.List.listUpdate
  refine wpAny_bind (wpAny_bind (wpAny_seqItems gS rfl (wpAny_pure ?_)))
  have h1 := Heap.get?_update_self (Obj.mapSeq fun _ => #[]) gS rfl
  refine wpAny_bind (wpAny_updateSeq gS rfl ?_ (by decide) (by show _ ≤ _; decide))
  refine wpAny_bind (wpAny_letGo ?_)
  have k2 : ∀ c o, c ≠ s.heap.objs.size → s.heap.get? c = some o → ((s.heap.push { cls := .type "list", data := .seq #[] }).update s.heap.objs.size (Obj.mapSeq fun _ => #[])).get? c = some o := fun c o n e => by
    rw [Heap.get?_update_ne _ _ _ _ n]; exact kp c o e
  have nS : ∀ {a : Addr}, Nat.lt a s.heap.objs.size → a ≠ s.heap.objs.size := fun h e => by
    rw [e] at h
    exact Nat.lt_irrefl _ h
  show wpAny _ A.in1.in1 (Builtin.List.listExtendWith (.ref s.heap.objs.size) (.ref z) .none) _ _ _
  refine z_extend (A := A.in1) (A1 := A.in1.in1) (R := wants (fun r s₂ => r = .none ∧ Q (.ref s.heap.objs.size) s₂) E) (s := { s with heap := (s.heap.push { cls := .type "list", data := .seq #[] }).update s.heap.objs.size (Obj.mapSeq fun _ => #[]) }) hh hh D lz lo l3 l4 l5 l6 l7 lim .none (k2 z _ (nS lz) hz) (x.keep fun c o hc e => k2 c o ?_ e) h1 (by rw [Heap.size_update, Heap.size_push]; exact Nat.le_refl _) fun h' acc' c' as' k3 y1 y2 y3 y4 => ⟨rfl, hQ h' acc' c' as' (fun b o n1 n2 n3 n4 e => ?_) y1 y2 y3 y4⟩
  · rcases hc with q | q | q | q | q | q | q | q
    · rw [q]; exact nS lz
    · rw [q]; exact nS l7
    · rw [q]; exact nS lo
    · rw [q]; exact nS l3
    · rw [q]; exact nS l4
    · rw [q]; exact nS l5
    · rw [q]; exact nS l6
    · exact ne_ge (Nat.lt_succ_self _) q
  · exact k3 b o (nS (Heap.lt_size e)) n1 n2 n3 n4 (k2 b o (nS (Heap.lt_size e)) e)
end
end L2.Zl

/-! list(zip(a, b)) of two lists, on trees. -/
namespace L2.Zl
open PySem PySem.Spec PyProof PyProof.Rows L2
theorem paired_mono {α β : Type} {r r' : α → β → Prop} (h : ∀ a b, r a b → r' a b) {as : List α} {bs : List β} (p : Paired r as bs) : Paired r' as bs := by
  induction p with
  | nil => exact .nil
  | cons q t ih => exact .cons (h _ _ q) ih
theorem ObjOk.ex {P : Program} {w : World} {H H' : Hp} {h : Heap} {a : Addr} (x : Tr.Ex H H') : ∀ {o : HO}, ObjOk P w H h a o → ObjOk P w H' h a o := by
  intro o
  induction o with
  | frz o u ih => exact fun k => ⟨k.1, ih k.2⟩
  | ins C dx fs => exact fun k => ⟨x _ _ k.1, k.2⟩
  | dT kvs =>
    intro k
    obtain ⟨k1, k2, xs, k3, k4⟩ := k
    exact ⟨k1, k2, xs, paired_mono (fun a b q => ⟨q.1, x _ _ q.2.1, q.2.2⟩) k3, k4⟩
  | _ => exact fun k => k
theorem Inv.many {X : Cx} {pins : List (Addr × Obj)} {σ : L2.St} {H H' : Hp} {s : Shared} {h' : Heap} (I : Inv X pins σ H s) (hk : ∀ b u, s.heap.get? b = some u → h'.get? b = some u) (x : Tr.Ex H H') (hN : ∀ a, H a = none → H' a ≠ none → s.heap.objs.size ≤ a)
    (ho : ∀ a o, H a = none → H' a = some o → ObjOk X.prog X.w H' h' a o) : Inv X pins σ H' { s with heap := h' } := by
  have J : Inv X pins σ H { s with heap := h' } := I.kept (t' := s.toks) hk
  have old : ∀ a o, s.heap.get? a = some o → H a = none → H' a = none := fun a o e hn => by
    cases e2 : H' a with
    | none => rfl
    | some v => exact absurd (Heap.lt_size e) (Nat.not_lt_of_le (hN a hn (by rw [e2]; exact fun z => nomatch z)))
  refine I.call (ch := []) ⟨fun b o e _ _ _ => hk b o e, fun b o e _ _ _ => ⟨o.slots, hk b o e⟩, fun b o e hn _ => old b o e hn, fun b o e _ => ⟨o, hk b o e⟩, fun b xs e => x _ _ e, fun b o u e => x _ _ e, fun b ps e => ⟨#[], by rw [Array.append_empty]; exact x _ _ e⟩⟩ (fun a o e => ?_) I.bare (fun _ z => nomatch z)
  cases e2 : H a with
  | none => exact ho a o e2 e
  | some v =>
    have := x _ _ e2
    rw [e] at this
    cases this
    exact ObjOk.ex x (J.hok a o e2)
/-! list(zip(a, b)) on trees. -/
namespace L2.Tr
open PySem PySem.Spec PyProof PyProof.Rows L2
section
variable {X : Cx} {e e2 : Expr} {ta tb : TE} {φa φb : Env → Option D} {p p2 q pos : Pos}
def lzD : D → D → Option (List D)
  | .seq true xs, .seq true ys => some (zipL xs ys)
  | _, _ => none
def lzF (φa φb : Env → Option D) : Env → Option (List D) := fun ρ => (φa ρ).bind fun x => (φb ρ).bind fun y => lzD x y
end
end L2.Tr

namespace L2.K1
open PySem PySem.Spec PyProof.Rows L2.Tr
section
variable {P : Program} {w : World} {K : PySem.W.Frag} {mg : Str → Option Value} {base : Heap}
abbrev sPickW : Stmt := top 84
abbrev nPickW : List Str := ["_law_stream", "_law_some_here"]
theorem scPickW : FnScope nPickW ["_law_stream", "_law_some_here"] (defScope sPickW) := ⟨rfl, rfl, rfl, by decide +kernel, rfl, by decide +kernel, by decide +kernel⟩
def FPickW (a : Addr) : WF Nat Ou := (retW (b2W ixD (lf (atP 1)) (callW (drawW a) (consW (lf (atP 0)) (consW (lf (app1 lenA (consD (atP 1) nilD))) nilW)))))
def fPickW (a : Addr) : List D → Nat → (D → Nat → Prop) → Prop := fun ds s R => ds.length = (["_law_stream", "_law_some_here"] : List Str).length ∧ runW nPickW.length (FPickW a ) ds s R
theorem okPickW {f : Addr} {fd : FuncData} (F : Fun K "_law_pick" "_law_pick" sPickW f fd) (B : TxB2 mg) (hDr : FnE P w K mg base "_law_draw" 1 spDraw) : FnOk P w K mg base CX0 2 f fd ["_law_stream", "_law_some_here"] (spS fun a => fPickW a ) :=
  ok_defW (N := nPickW) (Ωs := fun j : Addr × Addr => St j.1 j.2) (Φs := fun j => FPickW j.1 ) F scPickW fun j cdv A outer s H E hr => ⟨_, (ssw_one (sw_ret (pw_ix (PuD.w (pu_var (pv 1))) (pw_call hDr subDraw (hr.mono (by first | decide | omega)) (by rfl) (aw_cons (PuD.w (pu_var (pv 0))) (aw_cons (PuD.w (pu_cb (CallR.or call_len call_lenD) (R1D.or r1_len r1_lenK) (by rfl) B.z_len (by decide +kernel) (av_cons (PuD.vi (pu_var (pv 1))) av_nil))) aw_nil))) (fun _ _ => rfl))))⟩
abbrev sWords : Stmt := top 87
abbrev nWords : List Str := ["_law_stream", "_law_many", "_law_found", "_law_k", "_law_word_here", "_law_spare_here", "_law_letter", "_law_one"]
theorem scWords : FnScope nWords ["_law_stream", "_law_many"] (defScope sWords) := ⟨rfl, rfl, rfl, by decide +kernel, rfl, by decide +kernel, by decide +kernel⟩
def FWords (a : Addr) : WF Nat Ou := (seqW (lfS (asgO 2 (lstDisp nilD))) (seqW (forW (lf (rngF (atP 1))) (setF 3) (seqW (setW 4 (svP (callW (wordW a) (consW (lf (atP 0)) nilW)))) (lfS (seqF (asgF (bin2 addD (mapS (lstDisp (consD (atP 4) nilD))) (mapS (lcF [6] (strsF (kD (.leaf (.str "abcdefghijklmnop")))) (setF 6) yesF (bin2 addD (bin2 addD (atP 6) (kD (.leaf (.str "q")))) (atP 6))))) (setF 5)) (growF 2 (bin2 ixD (mapS (lcF [7] (seqsF (atP 5)) (setF 7) (andB (asBF (bin2 (inD true) (atP 7) (atV 2))) (asBF (bin2 (scD true) (atP 7) (kD (.leaf (.str "number")))))) (atP 7))) (kD (.leaf (.int 0)))) fun xs d => xs ++ [d]))))) (lfS (retO 2))))
def fWords (a : Addr) : List D → Nat → (D → Nat → Prop) → Prop := fun ds s R => ds.length = (["_law_stream", "_law_many"] : List Str).length ∧ runW nWords.length (FWords a ) ds s R
theorem okWords {f : Addr} {fd : FuncData} (F : Fun K "_law_words" "_law_words" sWords f fd) (B : TxB2 mg) (hWd : FnE P w K mg base "_law_word" 3 spWord) : FnOk P w K mg base CX0 4 f fd ["_law_stream", "_law_many"] (spS fun a => fWords a ) :=
  ok_defW (N := nWords) (Ωs := fun j : Addr × Addr => St j.1 j.2) (Φs := fun j => FWords j.1 ) F scWords fun j cdv A outer s H E hr => ⟨_, (ssw_cons (StD.w (sd_nmO (ow_lst ar_nil) (fun h => ps_set (i := 2) scWords.nd rfl (by first | exact Or.inl rfl | exact Or.inr rfl) h))) (ssw_cons (sw_for PassesOwn.never rfl (ItD.w (it_rng (pu_var (pv 1)) (by rfl) B.z_range)) (tg_name (pg_name (i := 3) scWords.nd rfl (by first | exact Or.inl rfl | exact Or.inr rfl))) (ssw_cons (sw_set (i := 4) (PuW.sv (pw_call hWd subWord (hr.mono (by first | decide | omega)) (by rfl) (aw_cons (PuD.w (pu_var (pv 0))) aw_nil))) (fun h => ps_set (i := 4) scWords.nd rfl (by first | exact Or.inl rfl | exact Or.inr rfl) h)) (SsD.w (ss_cons (sd_nm (pu_add (PuD.vi (OwD.pu (ow_lst (ar_cons (pu_var (pv 4)) ar_nil)))) (PuD.vi (OwD.pu (LcD.ow (lc0 [("_law_letter", 6)] (it_str (pu_c pe_str (by decide +kernel))) (blkOk_by (N := nWords) (sc := defScope sWords) (by decide +kernel)) (fun _ _ _ _ _ => (tg_name (pg_name (i := 6) scWords.nd rfl (Or.inl rfl)))) (fun _ _ _ _ _ => (tw_name (by decide))) (fun _ _ _ _ _ => (pu_add (PuD.vi (pu_add (PuD.vi (pu_var (pv 6))) (PuD.vi (pu_c pe_str (by decide +kernel))))) (PuD.vi (pu_var (pv 6)))))) rfl scWords.nd)))) (fun h => ps_set (i := 5) scWords.nd rfl (by first | exact Or.inl rfl | exact Or.inr rfl) h)) (ss_one (sd_appK (i := 2) (pu_ix (PuD.vi (OwD.pu (LcD.ow (lcI [("_law_one", 7)] (it_seq (pu_var (pv 5))) (blkOk_by (N := nWords) (sc := defScope sWords) (by decide +kernel)) (fun _ _ _ _ _ => (tg_name (pg_name (i := 7) scWords.nd rfl (Or.inl rfl)))) (fun _ _ _ _ _ => (tw_name (by decide))) (fun _ _ _ _ _ => (TwD.te (tw_and (te_cmp op_notIn_seq r2_in (by with_unfolding_all rfl) (PuD.vi (pu_var (pv 7))) (vi_var (pv 2))) (tw_and1 (te_cmp op_ne r2_neS (nomark _) (PuD.vi (pu_var (pv 7))) (PuD.vi (pu_c pe_str (by decide +kernel)))))))) (fun _ _ _ _ _ => (pu_var (pv 7)))) rfl scWords.nd))) (PuD.vi (pu_c pe_int rfl)) (fun _ _ => rfl)) (fun h => ps_expr (pe_bm PySem.F.plainAttrs_list PySem.F.slot_list_append PySem.F.type_list_append mt_append (pv 2) (pa_cons h pa_nil))))))))) (SsD.w (ss_one (sd_retO (pv 2))))))⟩
abbrev sWorld : Stmt := top 63
abbrev nWorld : List Str := ["_law_stream", "_law_shapes", "_law_counts", "_law_free", "_law_drawn", "_law_names", "_law_values", "_law_left", "_law_many"]
theorem scWorld : FnScope nWorld ["_law_stream", "_law_shapes"] (defScope sWorld) := ⟨rfl, rfl, rfl, by decide +kernel, rfl, by decide +kernel, by decide +kernel⟩
def FWorld (a : Addr) : WF Nat Ou := (seqW (asgW (callW (fPickW a) (consW (lf (atP 0)) (consW (lf (atP 1)) nilW))) (tupT 2 (consT (setF 2) (consT (setF 3) nilT)))) (seqW (setW 4 (svP (callW (fWords a) (consW (lf (atP 0)) (consW (lf (bin2 addD (bin2 addD (bin2 addD (app1 lenA (consD (atP 2) nilD)) (atP 3)) (app1 sumD (consD (atP 2) nilD))) (kD (.leaf (.int 2))))) nilW))))) (seqW (par2W 5 6 (svP (lf (orE (mapS (slF slO (atP 4) (fun _ => some none) (partF (bin2 addD (app1 lenA (consD (atP 2) nilD)) (atP 3))))) (slF slT (atP 4) (fun _ => some none) (partF (bin2 addD (app1 lenA (consD (atP 2) nilD)) (atP 3))))))) (svO (lf (mapS (lstDisp nilD))))) (seqW (lfS (asgF (orE (mapS (slF slO (atP 4) (partF (bin2 addD (app1 lenA (consD (atP 2) nilD)) (atP 3))) (fun _ => some none))) (slF slT (atP 4) (partF (bin2 addD (app1 lenA (consD (atP 2) nilD)) (atP 3))) (fun _ => some none))) (setF 7))) (seqW (lfS (forF (seqsF (atP 2)) (setF 8) (seqF (growF 6 (app1 tupD (consD (orE (mapS (slF slO (atP 7) (fun _ => some none) (partF (atP 8)))) (slF slT (atP 7) (fun _ => some none) (partF (atP 8)))) nilD)) fun xs d => xs ++ [d]) (asgF (orE (mapS (slF slO (atP 7) (partF (atP 8)) (fun _ => some none))) (slF slT (atP 7) (partF (atP 8)) (fun _ => some none))) (setF 7))))) (seqW (ifSW (andW (lf (asBF (chainF (eqP false) (eqP true) (orE (mapS (slF slO (atP 2) (fun _ => some none) (partF (kD (.leaf (.int 1)))))) (slF slT (atP 2) (fun _ => some none) (partF (kD (.leaf (.int 1)))))) (orE (mapS (slF slO (atP 2) (partF (kD (.leaf (.int 1)))) (partF (kD (.leaf (.int 2)))))) (slF slT (atP 2) (partF (kD (.leaf (.int 1)))) (partF (kD (.leaf (.int 2)))))) (mapS (lstDisp nilD))))) (asW (b2W (scD false) (callW (drawW a) (consW (lf (atP 0)) (consW (lf (kD (.leaf (.int 2)))) nilW))) (lf (kD (.leaf (.int 0))))))) (lputW 6 1 (lf (bin2 ixD (atV 6) (kD (.leaf (.int 0)))))) (lfS skipF)) (lfS (retF (dispF ["names", "values", "named"] (consD (atP 5) (consD (bin2 addD (atV 6) (mapS (bin2 repO (mapS (lstDisp (consD (kD (.leaf .non)) nilD))) (atP 3)))) (consD (atP 7) nilD))))))))))))
def fWorld (a : Addr) : List D → Nat → (D → Nat → Prop) → Prop := fun ds s R => ds.length = (["_law_stream", "_law_shapes"] : List Str).length ∧ runW nWorld.length (FWorld a ) ds s R
theorem okWorld {f : Addr} {fd : FuncData} (F : Fun K "_law_world" "_law_world" sWorld f fd) (B : TxB2 mg) (hDr : FnE P w K mg base "_law_draw" 1 spDraw) (hPk : FnE P w K mg base "_law_pick" 2 (spS fPickW)) (hWs : FnE P w K mg base "_law_words" 4 (spS fWords)) : FnOk P w K mg base CX0 5 f fd ["_law_stream", "_law_shapes"] (spS fun a => fWorld a ) :=
  ok_defW (N := nWorld) (Ωs := fun j : Addr × Addr => St j.1 j.2) (Φs := fun j => FWorld j.1 ) F scWorld fun j cdv A outer s H E hr => ⟨_, (ssw_cons (sw_asg (pw_call hPk subS (hr.mono (by first | decide | omega)) (by rfl) (aw_cons (PuD.w (pu_var (pv 0))) (aw_cons (PuD.w (pu_var (pv 1))) aw_nil))) (tg_tup rfl (tgs_cons (tg_name (pg_name (i := 2) scWorld.nd rfl (by first | exact Or.inl rfl | exact Or.inr rfl))) (tgs_cons (tg_name (pg_name (i := 3) scWorld.nd rfl (by first | exact Or.inl rfl | exact Or.inr rfl))) tgs_nil)))) (ssw_cons (sw_set (i := 4) (PuW.sv (pw_call hWs subS (hr.mono (by first | decide | omega)) (by rfl) (aw_cons (PuD.w (pu_var (pv 0))) (aw_cons (PuD.w (pu_add (PuD.vi (pu_add (PuD.vi (pu_add (PuD.vi (pu_cb (CallR.or call_len call_lenD) (R1D.or r1_len r1_lenK) (by rfl) B.z_len (by decide +kernel) (av_cons (PuD.vi (pu_var (pv 2))) av_nil))) (PuD.vi (pu_var (pv 3))))) (PuD.vi (pu_cb (cr_sum rfl) r1_sum (by rfl) B.z_sum (by decide +kernel) (av_cons (PuD.vi (pu_var (pv 2))) av_nil))))) (PuD.vi (pu_c pe_int rfl)))) aw_nil)))) (fun h => ps_set (i := 4) scWorld.nd rfl (by first | exact Or.inl rfl | exact Or.inr rfl) h)) (ssw_cons (sw_par2 (PuW.sv (PuD.w (PuD.or (OwD.pu (ow_sl (PuD.vi (pu_var (pv 4))) so_none (so_some (pu_add (PuD.vi (pu_cb (CallR.or call_len call_lenD) (R1D.or r1_len r1_lenK) (by rfl) B.z_len (by decide +kernel) (av_cons (PuD.vi (pu_var (pv 2))) av_nil))) (PuD.vi (pu_var (pv 3))))))) (pu_slT (PuD.vi (pu_var (pv 4))) so_none (so_some (pu_add (PuD.vi (pu_cb (CallR.or call_len call_lenD) (R1D.or r1_len r1_lenK) (by rfl) B.z_len (by decide +kernel) (av_cons (PuD.vi (pu_var (pv 2))) av_nil))) (PuD.vi (pu_var (pv 3))))))))) (OwW.sv (OwD.w (ow_lst ar_nil))) (fun h => ps_par (i := 5) (j := 6) rfl scWorld.nd rfl rfl (by decide) rfl rfl h (by rfl))) (ssw_cons (StD.w (sd_nm (PuD.or (OwD.pu (ow_sl (PuD.vi (pu_var (pv 4))) (so_some (pu_add (PuD.vi (pu_cb (CallR.or call_len call_lenD) (R1D.or r1_len r1_lenK) (by rfl) B.z_len (by decide +kernel) (av_cons (PuD.vi (pu_var (pv 2))) av_nil))) (PuD.vi (pu_var (pv 3))))) so_none)) (pu_slT (PuD.vi (pu_var (pv 4))) (so_some (pu_add (PuD.vi (pu_cb (CallR.or call_len call_lenD) (R1D.or r1_len r1_lenK) (by rfl) B.z_len (by decide +kernel) (av_cons (PuD.vi (pu_var (pv 2))) av_nil))) (PuD.vi (pu_var (pv 3))))) so_none)) (fun h => ps_set (i := 7) scWorld.nd rfl (by first | exact Or.inl rfl | exact Or.inr rfl) h))) (ssw_cons (StD.w (sd_for PassesOwn.never rfl (it_seq (pu_var (pv 2))) (tg_name (pg_name (i := 8) scWorld.nd rfl (by first | exact Or.inl rfl | exact Or.inr rfl))) (ss_cons (sd_appK (i := 6) (pu_cty call_tuple_of r1_tup (by rfl) B.z_tuple (by decide +kernel) (av_cons (PuD.vi (PuD.or (OwD.pu (ow_sl (PuD.vi (pu_var (pv 7))) so_none (so_some (pu_var (pv 8))))) (pu_slT (PuD.vi (pu_var (pv 7))) so_none (so_some (pu_var (pv 8)))))) av_nil)) (fun h => ps_expr (pe_bm PySem.F.plainAttrs_list PySem.F.slot_list_append PySem.F.type_list_append mt_append (pv 6) (pa_cons h pa_nil)))) (ss_one (sd_nm (PuD.or (OwD.pu (ow_sl (PuD.vi (pu_var (pv 7))) (so_some (pu_var (pv 8))) so_none)) (pu_slT (PuD.vi (pu_var (pv 7))) (so_some (pu_var (pv 8))) so_none)) (fun h => ps_set (i := 7) scWorld.nd rfl (by first | exact Or.inl rfl | exact Or.inr rfl) h)))))) (ssw_cons (sw_if (TwW.te (tww_and (TeD.w (te_chain (op_eqD (hr.units)) (op_neD (hr.units)) r2_eqD r2_neD (PuD.vi (PuD.or (OwD.pu (ow_sl (PuD.vi (pu_var (pv 2))) so_none (so_some (pu_c pe_int rfl)))) (pu_slT (PuD.vi (pu_var (pv 2))) so_none (so_some (pu_c pe_int rfl))))) (PuD.vi (PuD.or (OwD.pu (ow_sl (PuD.vi (pu_var (pv 2))) (so_some (pu_c pe_int rfl)) (so_some (pu_c pe_int rfl)))) (pu_slT (PuD.vi (pu_var (pv 2))) (so_some (pu_c pe_int rfl)) (so_some (pu_c pe_int rfl))))) (PuD.vi (OwD.pu (ow_lst ar_nil))))) (tww_and1 (tw_cmp op_eq r2_eqS (nomark _) (pw_call hDr subDraw (hr.mono (by first | decide | omega)) (by rfl) (aw_cons (PuD.w (pu_var (pv 0))) (aw_cons (PuD.w (pu_c pe_int rfl)) aw_nil))) (PuD.w (pu_c pe_int rfl)))))) (ssw_one (sw_lput (i := 6) (j := 1) (PuD.w (pu_ix (vi_var (pv 6)) (PuD.vi (pu_c pe_int rfl)) (fun _ _ => rfl))) (fun h => ps_asg h (pg_sub (pv 6) pe_int set_list)))) (SsD.w ss_nil)) (SsD.w (ss_one (sd_ret (pu_disp (ks := ["names", "values", "named"]) (ds_cons (x := "names") pe_str (pu_var (pv 5)) (ds_cons (x := "values") pe_str (pu_add (vi_var (pv 6)) (PuD.vi (OwD.pu (ow_rep (PuD.vi (OwD.pu (ow_lst (ar_cons (pu_c pe_non rfl) ar_nil)))) (PuD.vi (pu_var (pv 3))))))) (ds_cons (x := "named") pe_str (pu_var (pv 7)) ds_nil))) (by decide +kernel) (by decide) rfl rfl (fun z => nomatch z) (by decide)))))))))))⟩
abbrev sSpare : Stmt := top 77
abbrev nSpare : List Str := ["_law_w", "_law_known", "_law_some_here", "_law_word_here", "_law_letter"]
theorem scSpare : FnScope nSpare ["_law_w"] (defScope sSpare) := ⟨rfl, rfl, rfl, by decide +kernel, rfl, by decide +kernel, by decide +kernel⟩
def FSpare : L2.Tr.Env → Option Out := (seqF (asgF (bin2 addD (mapS (app1 lstA (consD (bin2 dgD (atP 0) (kD (.leaf (.str "names")))) nilD))) (mapS (app1 lstA (consD (bin2 dgD (atP 0) (kD (.leaf (.str "named")))) nilD)))) (setF 1)) (seqF (forF (seqsF (bin2 dgD (atP 0) (kD (.leaf (.str "values"))))) (setF 2) (asgF (bin2 addD (atP 1) (mapS (app1 lstA (consD (orF (atP 2) (mapS (lstDisp nilD))) nilD)))) (setF 1))) (retF (mapS (lcF [3] (seqsF (mapS (lcF [4] (strsF (kD (.leaf (.str "abcdefghijklmnopqrstuv")))) (setF 4) yesF (bin2 addD (kD (.leaf (.str "zz"))) (atP 4))))) (setF 3) (asBF (bin2 (inD true) (atP 3) (atP 1))) (atP 3))))))
def fSpare (ds : List D) : Option D := if ds.length = (["_law_w"] : List Str).length then runF nSpare.length (FSpare ) ds else none
theorem okSpare {f : Addr} {fd : FuncData} (F : Fun K "_law_spare" "_law_spare" sSpare f fd) (B : TxB2 mg) : FnOk P w K mg base CX0 1 f fd ["_law_w"] (spP (fSpare )) :=
  ok_def (N := nSpare) (Φ := FSpare ) F scSpare fun cdv A outer s H E hr => ⟨_, (ss_cons (sd_nm (pu_add (PuD.vi (OwD.pu (ow_cty (CallR.or call_list_of (call_list_dK rfl)) (R1O.or r1_lst r1_lstK) (by rfl) B.z_list (by decide +kernel) (av_cons (PuD.vi (pu_dg (hu_of hr) (PuD.vi (pu_var (pv 0))) (PuD.vi (pu_c pe_str (by decide +kernel))) (fun _ _ => rfl))) av_nil)))) (PuD.vi (OwD.pu (ow_cty (CallR.or call_list_of (call_list_dK rfl)) (R1O.or r1_lst r1_lstK) (by rfl) B.z_list (by decide +kernel) (av_cons (PuD.vi (pu_dg (hu_of hr) (PuD.vi (pu_var (pv 0))) (PuD.vi (pu_c pe_str (by decide +kernel))) (fun _ _ => rfl))) av_nil))))) (fun h => ps_set (i := 1) scSpare.nd rfl (by first | exact Or.inl rfl | exact Or.inr rfl) h)) (ss_cons (sd_for PassesOwn.never rfl (it_seq (pu_dg (hu_of hr) (PuD.vi (pu_var (pv 0))) (PuD.vi (pu_c pe_str (by decide +kernel))) (fun _ _ => rfl))) (tg_name (pg_name (i := 2) scSpare.nd rfl (by first | exact Or.inl rfl | exact Or.inr rfl))) (ss_one (sd_nm (pu_add (PuD.vi (pu_var (pv 1))) (PuD.vi (OwD.pu (ow_cty (CallR.or call_list_of (call_list_dK rfl)) (R1O.or r1_lst r1_lstK) (by rfl) B.z_list (by decide +kernel) (av_cons (PuD.vi (pu_orT (pu_var (pv 2)) (pu_one (OwD.pu (ow_lst ar_nil))))) av_nil))))) (fun h => ps_set (i := 1) scSpare.nd rfl (by first | exact Or.inl rfl | exact Or.inr rfl) h)))) (ss_one (sd_ret (OwD.pu (LcD.ow (lcI [("_law_word_here", 3)] (it_seq (OwD.pu (LcD.ow (lc0 [("_law_letter", 4)] (it_str (pu_c pe_str (by decide +kernel))) (blkOk_by (N := nSpare) (sc := defScope sSpare) (by decide +kernel)) (fun _ _ _ _ _ => (tg_name (pg_name (i := 4) scSpare.nd rfl (Or.inl rfl)))) (fun _ _ _ _ _ => (tw_name (by decide))) (fun _ _ _ _ _ => (pu_add (PuD.vi (pu_c pe_str (by decide +kernel))) (PuD.vi (pu_var (pv 4)))))) rfl scSpare.nd))) (blkOk_by (N := nSpare) (sc := defScope sSpare) (by decide +kernel)) (fun _ _ _ _ _ => (tg_name (pg_name (i := 3) scSpare.nd rfl (Or.inl rfl)))) (fun _ _ _ _ _ => (tw_name (by decide))) (fun _ _ _ _ _ => (te_cmp op_notIn_seq r2_in (by with_unfolding_all rfl) (PuD.vi (pu_var (pv 3))) (PuD.vi (pu_var (pv 1))))) (fun _ _ _ _ _ => (pu_var (pv 3)))) rfl scSpare.nd))))))⟩
abbrev sLetters : Stmt := top 76
abbrev nLetters : List Str := ["_law_w", "_law_rows", "_law_spare_here", "_law_values", "_law_longer", "_law_row", "_law_fresh", "_law_some_here", "_law_word_here"]
theorem scLetters : FnScope nLetters ["_law_w"] (defScope sLetters) := ⟨rfl, rfl, rfl, by decide +kernel, rfl, by decide +kernel, by decide +kernel⟩
def FLetters : L2.Tr.Env → Option Out := (seqF (par_pp 1 2 (mapS (lstDisp (consD (tupDisp nilD) nilD))) (app1 fSpare (consD (atP 0) nilD))) (seqF (forF (seqsF (bin2 dgD (atP 0) (kD (.leaf (.str "values"))))) (setF 3) (seqF (asgO 4 (lstDisp nilD)) (seqF (forF (seqsF (atP 1)) (setF 5) (seqF (asgF (ifF (asBF (bin2 (inD false) (bin2 ixD (atP 2) (kD (.leaf (.int 0)))) (atP 5))) (orE (mapS (slF slO (atP 2) (fun _ => some none) (partF (kD (.leaf (.int 2)))))) (slF slT (atP 2) (fun _ => some none) (partF (kD (.leaf (.int 2)))))) (orE (mapS (slF slO (atP 2) (fun _ => some none) (partF (kD (.leaf (.int 1)))))) (slF slT (atP 2) (fun _ => some none) (partF (kD (.leaf (.int 1))))))) (setF 6)) (seqF (asgF (ifF (asBF (bin2 (isN true) (atP 3) (kD (.leaf .non)))) (mapS (app1 lstA (consD (atP 3) nilD))) (bin2 addD (bin2 dgD (atP 0) (kD (.leaf (.str "named")))) (atP 6))) (setF 7)) (growF 4 (extArg (mapS (lcF [8] (seqsF (atP 7)) (setF 8) yesF (bin2 addD (atP 5) (tupDisp (consD (atP 8) nilD)))))) fun xs ds => xs ++ ds)))) (moveF 1 4)))) (retF (atP 1))))
def fLetters (ds : List D) : Option D := if ds.length = (["_law_w"] : List Str).length then runF nLetters.length (FLetters ) ds else none
theorem okLetters {f : Addr} {fd : FuncData} (F : Fun K "_law_letters" "_law_letters" sLetters f fd) (B : TxB2 mg) (hSp : Fn P w K mg base "_law_spare" 1 1 fSpare) : FnOk P w K mg base CX0 2 f fd ["_law_w"] (spP (fLetters )) :=
  ok_def (N := nLetters) (Φ := FLetters ) F scLetters fun cdv A outer s H E hr => ⟨_, (ss_cons (sd_par_pp (OwD.pu (ow_lst (ar_cons (pu_tup ar_nil) ar_nil))) (pu_call hSp (hr.mono (by first | decide | omega)) (by rfl) (ar_cons (pu_var (pv 0)) ar_nil)) (by decide) (fun h => ps_par (i := 1) (j := 2) rfl scLetters.nd rfl rfl (by decide) rfl rfl h (by rfl))) (ss_cons (sd_for PassesOwn.never rfl (it_seq (pu_dg (hu_of hr) (PuD.vi (pu_var (pv 0))) (PuD.vi (pu_c pe_str (by decide +kernel))) (fun _ _ => rfl))) (tg_name (pg_name (i := 3) scLetters.nd rfl (by first | exact Or.inl rfl | exact Or.inr rfl))) (ss_cons (sd_nmO (ow_lst ar_nil) (fun h => ps_set (i := 4) scLetters.nd rfl (by first | exact Or.inl rfl | exact Or.inr rfl) h)) (ss_cons (sd_for PassesOwn.never rfl (it_seq (pu_var (pv 1))) (tg_name (pg_name (i := 5) scLetters.nd rfl (by first | exact Or.inl rfl | exact Or.inr rfl))) (ss_cons (sd_nm (pu_if (te_cmp op_in_seq r2_in (by with_unfolding_all rfl) (PuD.vi (pu_ix (PuD.vi (pu_var (pv 2))) (PuD.vi (pu_c pe_int rfl)) (fun _ _ => rfl))) (PuD.vi (pu_var (pv 5)))) (PuD.or (OwD.pu (ow_sl (PuD.vi (pu_var (pv 2))) so_none (so_some (pu_c pe_int rfl)))) (pu_slT (PuD.vi (pu_var (pv 2))) so_none (so_some (pu_c pe_int rfl)))) (PuD.or (OwD.pu (ow_sl (PuD.vi (pu_var (pv 2))) so_none (so_some (pu_c pe_int rfl)))) (pu_slT (PuD.vi (pu_var (pv 2))) so_none (so_some (pu_c pe_int rfl))))) (fun h => ps_set (i := 6) scLetters.nd rfl (by first | exact Or.inl rfl | exact Or.inr rfl) h)) (ss_cons (sd_nm (pu_if (te_cmp op_notN r2_notN (nomark _) (PuD.vi (pu_var (pv 3))) (PuD.vi (pu_c pe_non rfl))) (OwD.pu (ow_cty (CallR.or call_list_of (call_list_dK rfl)) (R1O.or r1_lst r1_lstK) (by rfl) B.z_list (by decide +kernel) (av_cons (PuD.vi (pu_var (pv 3))) av_nil))) (pu_add (PuD.vi (pu_dg (hu_of hr) (PuD.vi (pu_var (pv 0))) (PuD.vi (pu_c pe_str (by decide +kernel))) (fun _ _ => rfl))) (PuD.vi (pu_var (pv 6))))) (fun h => ps_set (i := 7) scLetters.nd rfl (by first | exact Or.inl rfl | exact Or.inr rfl) h)) (ss_one (sd_extK (i := 4) (OwD.pu (LcD.ow (lc0 [("_law_word_here", 8)] (it_seq (pu_var (pv 7))) (blkOk_by (N := nLetters) (sc := defScope sLetters) (by decide +kernel)) (fun _ _ _ _ _ => (tg_name (pg_name (i := 8) scLetters.nd rfl (Or.inl rfl)))) (fun _ _ _ _ _ => (tw_name (by decide))) (fun _ _ _ _ _ => (pu_add (PuD.vi (pu_var (pv 5))) (PuD.vi (pu_tup (ar_cons (pu_var (pv 8)) ar_nil)))))) rfl scLetters.nd)) (fun h => ps_expr (pe_bm PySem.F.plainAttrs_list PySem.F.slot_list_extend PySem.F.type_list_extend mt_extend (pv 4) (pa_cons h pa_nil)))))))) (ss_one (sd_move (i := 1) (pv 4) (fun h => ps_set (i := 1) scLetters.nd rfl (by first | exact Or.inl rfl | exact Or.inr rfl) h)))))) (ss_one (sd_ret (pu_var (pv 1))))))⟩
abbrev sColsOf : Stmt := top 64
abbrev nColsOf : List Str := ["_law_w", "_law_told", "_law_name", "_law_values"]
theorem scColsOf : FnScope nColsOf ["_law_w"] (defScope sColsOf) := ⟨rfl, rfl, rfl, by decide +kernel, rfl, by decide +kernel, by decide +kernel⟩
def FColsOf (C : Addr) (gM : List D → Option (List Str × List D)) : L2.Tr.Env → Option Out := (seqF (asgF (mapS (lcF [2, 3] (zipF (bin2 dgD (atP 0) (kD (.leaf (.str "names")))) (bin2 dgD (atP 0) (kD (.leaf (.str "values"))))) (tupT 2 (consT (setF 2) (consT (setF 3) nilT))) (asBF (bin2 (isN true) (atP 3) (kD (.leaf .non)))) (tupDisp (consD (atP 2) (consD (atP 3) nilD))))) (setF 1)) (retF (app1 (mkD C gM) (consD (atP 1) (consD (mapS (lcF [2, 3] (zipF (bin2 dgD (atP 0) (kD (.leaf (.str "names")))) (bin2 dgD (atP 0) (kD (.leaf (.str "values"))))) (tupT 2 (consT (setF 2) (consT (setF 3) nilT))) (asBF (bin2 (isN false) (atP 3) (kD (.leaf .non)))) (atP 2))) nilD)))))
def fColsOf (C : Addr) (gM : List D → Option (List Str × List D)) (ds : List D) : Option D := if ds.length = (["_law_w"] : List Str).length then runF nColsOf.length (FColsOf C gM ) ds else none
theorem okColsOf {f : Addr} {fd : FuncData} (C : Addr) (gM : List D → Option (List Str × List D)) (F : Fun K "_law_columns" "_law_columns" sColsOf f fd) (B : TxB2 mg) (mk : Mkr P w K mg base "Columns" C 4 gM) : FnOk P w K mg base CX0 6 f fd ["_law_w"] (spP (fColsOf C gM )) :=
  ok_def (N := nColsOf) (Φ := FColsOf C gM ) F scColsOf fun cdv A outer s H E hr => ⟨_, (ss_cons (sd_set (OwD.pu (LcD.ow (lcI [("_law_name", 2), ("_law_values", 3)] (it_zip (pu_dg (hu_of hr) (PuD.vi (pu_var (pv 0))) (PuD.vi (pu_c pe_str (by decide +kernel))) (fun _ _ => rfl)) (pu_dg (hu_of hr) (PuD.vi (pu_var (pv 0))) (PuD.vi (pu_c pe_str (by decide +kernel))) (fun _ _ => rfl)) (by rfl) B.z_zip) (blkOk_by (N := nColsOf) (sc := defScope sColsOf) (by decide +kernel)) (fun _ _ _ _ _ => (tg_tup rfl (tgs_cons (tg_name (pg_name (i := 2) scColsOf.nd rfl (Or.inl rfl))) (tgs_cons (tg_name (pg_name (i := 3) scColsOf.nd rfl (Or.inl rfl))) tgs_nil)))) (fun _ _ _ _ _ => (tw_tup (tws_cons mono_nm (tw_name (by decide)) (tws_cons mono_nm (tw_name (by decide)) tws_nil)))) (fun _ _ _ _ _ => (te_cmp op_notN r2_notN (nomark _) (PuD.vi (pu_var (pv 3))) (PuD.vi (pu_c pe_non rfl)))) (fun _ _ _ _ _ => (pu_tup (ar_cons (pu_var (pv 2)) (ar_cons (pu_var (pv 3)) ar_nil))))) rfl scColsOf.nd)) (LcD.set (i := 1) (lcI [("_law_name", 2), ("_law_values", 3)] (it_zip (pu_dg (hu_of hr) (PuD.vi (pu_var (pv 0))) (PuD.vi (pu_c pe_str (by decide +kernel))) (fun _ _ => rfl)) (pu_dg (hu_of hr) (PuD.vi (pu_var (pv 0))) (PuD.vi (pu_c pe_str (by decide +kernel))) (fun _ _ => rfl)) (by rfl) B.z_zip) (blkOk_by (N := nColsOf) (sc := defScope sColsOf) (by decide +kernel)) (fun _ _ _ _ _ => (tg_tup rfl (tgs_cons (tg_name (pg_name (i := 2) scColsOf.nd rfl (Or.inl rfl))) (tgs_cons (tg_name (pg_name (i := 3) scColsOf.nd rfl (Or.inl rfl))) tgs_nil)))) (fun _ _ _ _ _ => (tw_tup (tws_cons mono_nm (tw_name (by decide)) (tws_cons mono_nm (tw_name (by decide)) tws_nil)))) (fun _ _ _ _ _ => (te_cmp op_notN r2_notN (nomark _) (PuD.vi (pu_var (pv 3))) (PuD.vi (pu_c pe_non rfl)))) (fun _ _ _ _ _ => (pu_tup (ar_cons (pu_var (pv 2)) (ar_cons (pu_var (pv 3)) ar_nil))))) rfl scColsOf.nd rfl rfl (sw_true rfl rfl rfl (by decide +kernel)))) (ss_one (sd_ret (pu_make mk (hr.mono (by first | decide | omega)) (by rfl) (ar_cons (pu_var (pv 1)) (ar_cons (OwD.pu (LcD.ow (lcI [("_law_name", 2), ("_law_values", 3)] (it_zip (pu_dg (hu_of hr) (PuD.vi (pu_var (pv 0))) (PuD.vi (pu_c pe_str (by decide +kernel))) (fun _ _ => rfl)) (pu_dg (hu_of hr) (PuD.vi (pu_var (pv 0))) (PuD.vi (pu_c pe_str (by decide +kernel))) (fun _ _ => rfl)) (by rfl) B.z_zip) (blkOk_by (N := nColsOf) (sc := defScope sColsOf) (by decide +kernel)) (fun _ _ _ _ _ => (tg_tup rfl (tgs_cons (tg_name (pg_name (i := 2) scColsOf.nd rfl (Or.inl rfl))) (tgs_cons (tg_name (pg_name (i := 3) scColsOf.nd rfl (Or.inl rfl))) tgs_nil)))) (fun _ _ _ _ _ => (tw_tup (tws_cons mono_nm (tw_name (by decide)) (tws_cons mono_nm (tw_name (by decide)) tws_nil)))) (fun _ _ _ _ _ => (te_cmp op_isN r2_isN (nomark _) (PuD.vi (pu_var (pv 3))) (PuD.vi (pu_c pe_non rfl)))) (fun _ _ _ _ _ => (pu_var (pv 2)))) rfl scColsOf.nd)) ar_nil))))))⟩
abbrev sSame : Stmt := top 85
abbrev nSame : List Str := ["_law_found", "_law_due", "_law_one", "_law_other"]
def FSame (g : List D → Option D) : L2.Tr.Env → Option Out := (seqF (ifS (truF (isF isSeq (atP 1))) (seqF (ifS (orB (asBF (bin2 (scD true) (isF isLst (atP 0)) (isF isLst (atP 1)))) (asBF (bin2 (scD true) (isF isTup (atP 0)) (isF isTup (atP 1))))) (retF (kD (.leaf (.bl false)))) skipF) (retF (andF (bin2 (scD false) (app1 lenA (consD (atP 0) nilD)) (app1 lenA (consD (atP 1) nilD))) (app1 allD (consD (mapS (lcF [2, 3] (zipF (atP 0) (atP 1)) (tupT 2 (consT (setF 2) (consT (setF 3) nilT))) yesF (app1 g (consD (atP 2) (consD (atP 3) nilD))))) nilD))))) skipF) (seqF (ifS (truF (isF isInt (atP 1))) (retF (andF (isF isInt (atP 0)) (andF (bin2 (scD false) (isF isBool (atP 0)) (isF isBool (atP 1))) (bin2 (scD false) (atP 0) (atP 1))))) skipF) (retF (andF (bin2 (scD false) (atP 0) (atP 1)) (bin2 isB (isF isIntSeq (atP 0)) (kD (.leaf (.bl false))))))))
def fSame (g : List D → Option D) (ds : List D) : Option D := if ds.length = (["_law_found", "_law_due"] : List Str).length then runF nSame.length (FSame g ) ds else none
abbrev sLSome : Stmt := top 65
abbrev nLSome : List Str := ["_law_stream", "_law_things", "_law_found", "_law_thing"]
theorem scLSome : FnScope nLSome ["_law_stream", "_law_things"] (defScope sLSome) := ⟨rfl, rfl, rfl, by decide +kernel, rfl, by decide +kernel, by decide +kernel⟩
def FLSome (a : Addr) : WF Nat Ou := (seqW (setW 2 (svP (lcW [3] (lf (seqsF (atP 1))) (setF 3) (asW (b2W (scD false) (callW (drawW a) (consW (lf (atP 0)) (consW (lf (kD (.leaf (.int 2)))) nilW))) (lf (kD (.leaf (.int 0)))))) (lf (atP 3))))) (retW (ifW (lf (asBF (bin2 (eqP true) (atP 2) (mapS (lstDisp nilD))))) (lf (atP 2)) (lstW (consW (callW (fPickW a) (consW (lf (atP 0)) (consW (lf (atP 1)) nilW))) nilW)))))
def fLSome (a : Addr) : List D → Nat → (D → Nat → Prop) → Prop := fun ds s R => ds.length = (["_law_stream", "_law_things"] : List Str).length ∧ runW nLSome.length (FLSome a ) ds s R
theorem okLSome {f : Addr} {fd : FuncData} (F : Fun K "_law_some" "_law_some" sLSome f fd) (B : TxB2 mg) (hDr : FnE P w K mg base "_law_draw" 1 spDraw) (hPk : FnE P w K mg base "_law_pick" 2 (spS fPickW)) : FnOk P w K mg base CX0 3 f fd ["_law_stream", "_law_things"] (spS fun a => fLSome a ) :=
  ok_defW (N := nLSome) (Ωs := fun j : Addr × Addr => St j.1 j.2) (Φs := fun j => FLSome j.1 ) F scLSome fun j cdv A outer s H E hr => ⟨_, (ssw_cons (LcW.set (i := 2) (lcwI [("_law_thing", 3)] (ItD.w (it_seq (pu_var (pv 1)))) (blkOk_by (N := nLSome) (sc := defScope sLSome) (by decide +kernel)) (fun _ _ _ _ _ => (tg_name (pg_name (i := 3) scLSome.nd rfl (Or.inl rfl)))) (fun _ _ _ _ _ => (tw_name (by decide))) (fun _ _ _ _ _ => (tw_cmp op_eq r2_eqS (nomark _) (pw_call hDr subDraw (hr.mono (by first | decide | omega)) (by rfl) (aw_cons (PuD.w (pu_var (pv 0))) (aw_cons (PuD.w (pu_c pe_int rfl)) aw_nil))) (PuD.w (pu_c pe_int rfl)))) (fun _ _ _ _ _ => (PuD.w (pu_var (pv 3))))) rfl scLSome.nd rfl rfl (sw_true rfl rfl rfl (by decide +kernel)) (fun o => PuW.sv (OwW.pu o))) (ssw_one (sw_ret (pw_if (TeD.w (te_cmp (op_neD (hr.units)) r2_neD (nomark _) (PuD.vi (pu_var (pv 2))) (PuD.vi (OwD.pu (ow_lst ar_nil))))) (PuD.w (pu_var (pv 2))) (OwW.pu (oww_lst (aw_cons (pw_call hPk subS (hr.mono (by first | decide | omega)) (by rfl) (aw_cons (PuD.w (pu_var (pv 0))) (aw_cons (PuD.w (pu_var (pv 1))) aw_nil))) aw_nil)))))))⟩
abbrev sSLook : Stmt := top 66
abbrev nSLook : List Str := ["_law_stream", "_law_w", "_law_far", "_law_way", "_law_at", "_law_kin", "_law_name", "_law_some_here", "_law_others", "_law_drawn"]
theorem scSLook : FnScope nSLook ["_law_stream", "_law_w", "_law_far"] (defScope sSLook) := ⟨rfl, rfl, rfl, by decide +kernel, rfl, by decide +kernel, by decide +kernel⟩
def FSLook (a : Addr) : WF Nat Ou := (seqW (asgW (tupW (consW (callW (drawW a) (consW (lf (atP 0)) (consW (lf (kD (.leaf (.int 9)))) nilW))) (consW (callW (drawW a) (consW (lf (atP 0)) (consW (lf (app1 lenA (consD (bin2 dgD (atP 1) (kD (.leaf (.str "names")))) nilD))) nilW))) nilW))) (tupT 2 (consT (setF 3) (consT (setF 4) nilT)))) (seqW (lfS (asgF (mapS (lcF [6, 7] (zipF (bin2 dgD (atP 1) (kD (.leaf (.str "names")))) (bin2 dgD (atP 1) (kD (.leaf (.str "values"))))) (tupT 2 (consT (setF 6) (consT (setF 7) nilT))) (asBF (bin2 (eqP false) (atP 7) (bin2 ixD (bin2 dgD (atP 1) (kD (.leaf (.str "values")))) (atP 4)))) (atP 6))) (setF 5))) (seqW (lfS (asgF (mapS (lcF [6] (seqsF (atP 5)) (setF 6) (asBF (bin2 (scD true) (atP 6) (bin2 ixD (bin2 dgD (atP 1) (kD (.leaf (.str "names")))) (atP 4)))) (atP 6))) (setF 8))) (seqW (lfS (ifS (asBF (bin2 (scD false) (atP 3) (kD (.leaf (.int 0))))) (retF (tupDisp (consD (kD (.leaf (.str "every"))) nilD))) skipF)) (seqW (lfS (ifS (andB (asBF (bin2 (scD false) (atP 3) (kD (.leaf (.int 1))))) (asBF (bin2 (eqP true) (atP 8) (mapS (lstDisp nilD))))) (retF (tupDisp (consD (kD (.leaf (.str "same"))) (consD (bin2 ixD (bin2 dgD (atP 1) (kD (.leaf (.str "names")))) (atP 4)) (consD (bin2 ixD (atP 8) (kD (.leaf (.int 0)))) nilD))))) skipF)) (seqW (ifSW (lf (andB (asBF (bin2 (scD false) (atP 3) (kD (.leaf (.int 2))))) (asBF (bin2 (intI fun i j => .bl (decide (j < i))) (atP 2) (kD (.leaf (.int 0))))))) (retW (tupW (consW (lf (kD (.leaf (.str "numbered")))) (consW (ap1W tupD (consW (callW (fLSome a) (consW (lf (atP 0)) (consW (lf (mapS (bin2 rngS (kD (.leaf (.int 1))) (bin2 addD (atP 2) (kD (.leaf (.int 1))))))) nilW))) nilW)) nilW)))) (lfS skipF)) (seqW (lfS (asgF (ifF (asBF (bin2 (isN false) (bin2 ixD (bin2 dgD (atP 1) (kD (.leaf (.str "values")))) (atP 4)) (kD (.leaf .non)))) (bin2 dgD (atP 1) (kD (.leaf (.str "named")))) (mapS (app1 lstA (consD (bin2 ixD (bin2 dgD (atP 1) (kD (.leaf (.str "values")))) (atP 4)) nilD)))) (setF 9))) (retW (tupW (consW (lf (kD (.leaf (.str "has")))) (consW (lf (bin2 ixD (bin2 dgD (atP 1) (kD (.leaf (.str "names")))) (atP 4))) (consW (ap1W tupD (consW (callW (fLSome a) (consW (lf (atP 0)) (consW (lf (atP 9)) nilW))) nilW)) nilW))))))))))))
def fSLook (a : Addr) : List D → Nat → (D → Nat → Prop) → Prop := fun ds s R => ds.length = (["_law_stream", "_law_w", "_law_far"] : List Str).length ∧ runW nSLook.length (FSLook a ) ds s R
theorem okSLook {f : Addr} {fd : FuncData} (F : Fun K "_law_simple_look" "_law_simple_look" sSLook f fd) (B : TxB2 mg) (hDr : FnE P w K mg base "_law_draw" 1 spDraw) (hSm : FnE P w K mg base "_law_some" 3 (spS fLSome)) : FnOk P w K mg base CX0 4 f fd ["_law_stream", "_law_w", "_law_far"] (spS fun a => fSLook a ) :=
  ok_defW (N := nSLook) (Ωs := fun j : Addr × Addr => St j.1 j.2) (Φs := fun j => FSLook j.1 ) F scSLook fun j cdv A outer s H E hr => ⟨_, (ssw_cons (sw_asg (pw_tup (aw_cons (pw_call hDr subDraw (hr.mono (by first | decide | omega)) (by rfl) (aw_cons (PuD.w (pu_var (pv 0))) (aw_cons (PuD.w (pu_c pe_int rfl)) aw_nil))) (aw_cons (pw_call hDr subDraw (hr.mono (by first | decide | omega)) (by rfl) (aw_cons (PuD.w (pu_var (pv 0))) (aw_cons (PuD.w (pu_cb (CallR.or call_len call_lenD) (R1D.or r1_len r1_lenK) (by rfl) B.z_len (by decide +kernel) (av_cons (PuD.vi (pu_dg (hu_of hr) (PuD.vi (pu_var (pv 1))) (PuD.vi (pu_c pe_str (by decide +kernel))) (fun _ _ => rfl))) av_nil))) aw_nil))) aw_nil))) (tg_tup rfl (tgs_cons (tg_name (pg_name (i := 3) scSLook.nd rfl (by first | exact Or.inl rfl | exact Or.inr rfl))) (tgs_cons (tg_name (pg_name (i := 4) scSLook.nd rfl (by first | exact Or.inl rfl | exact Or.inr rfl))) tgs_nil)))) (ssw_cons (StD.w (sd_set (OwD.pu (LcD.ow (lcI [("_law_name", 6), ("_law_some_here", 7)] (it_zip (pu_dg (hu_of hr) (PuD.vi (pu_var (pv 1))) (PuD.vi (pu_c pe_str (by decide +kernel))) (fun _ _ => rfl)) (pu_dg (hu_of hr) (PuD.vi (pu_var (pv 1))) (PuD.vi (pu_c pe_str (by decide +kernel))) (fun _ _ => rfl)) (by rfl) B.z_zip) (blkOk_by (N := nSLook) (sc := defScope sSLook) (by decide +kernel)) (fun _ _ _ _ _ => (tg_tup rfl (tgs_cons (tg_name (pg_name (i := 6) scSLook.nd rfl (Or.inl rfl))) (tgs_cons (tg_name (pg_name (i := 7) scSLook.nd rfl (Or.inl rfl))) tgs_nil)))) (fun _ _ _ _ _ => (tw_tup (tws_cons mono_nm (tw_name (by decide)) (tws_cons mono_nm (tw_name (by decide)) tws_nil)))) (fun _ _ _ _ _ => (te_cmp (op_eqD (hr.units)) r2_eqD (nomark _) (PuD.vi (pu_var (pv 7))) (PuD.vi (pu_ix (PuD.vi (pu_dg (hu_of hr) (PuD.vi (pu_var (pv 1))) (PuD.vi (pu_c pe_str (by decide +kernel))) (fun _ _ => rfl))) (PuD.vi (pu_var (pv 4))) (fun _ _ => rfl))))) (fun _ _ _ _ _ => (pu_var (pv 6)))) rfl scSLook.nd)) (LcD.set (i := 5) (lcI [("_law_name", 6), ("_law_some_here", 7)] (it_zip (pu_dg (hu_of hr) (PuD.vi (pu_var (pv 1))) (PuD.vi (pu_c pe_str (by decide +kernel))) (fun _ _ => rfl)) (pu_dg (hu_of hr) (PuD.vi (pu_var (pv 1))) (PuD.vi (pu_c pe_str (by decide +kernel))) (fun _ _ => rfl)) (by rfl) B.z_zip) (blkOk_by (N := nSLook) (sc := defScope sSLook) (by decide +kernel)) (fun _ _ _ _ _ => (tg_tup rfl (tgs_cons (tg_name (pg_name (i := 6) scSLook.nd rfl (Or.inl rfl))) (tgs_cons (tg_name (pg_name (i := 7) scSLook.nd rfl (Or.inl rfl))) tgs_nil)))) (fun _ _ _ _ _ => (tw_tup (tws_cons mono_nm (tw_name (by decide)) (tws_cons mono_nm (tw_name (by decide)) tws_nil)))) (fun _ _ _ _ _ => (te_cmp (op_eqD (hr.units)) r2_eqD (nomark _) (PuD.vi (pu_var (pv 7))) (PuD.vi (pu_ix (PuD.vi (pu_dg (hu_of hr) (PuD.vi (pu_var (pv 1))) (PuD.vi (pu_c pe_str (by decide +kernel))) (fun _ _ => rfl))) (PuD.vi (pu_var (pv 4))) (fun _ _ => rfl))))) (fun _ _ _ _ _ => (pu_var (pv 6)))) rfl scSLook.nd rfl rfl (sw_true rfl rfl rfl (by decide +kernel))))) (ssw_cons (StD.w (sd_set (OwD.pu (LcD.ow (lcI [("_law_name", 6)] (it_seq (pu_var (pv 5))) (blkOk_by (N := nSLook) (sc := defScope sSLook) (by decide +kernel)) (fun _ _ _ _ _ => (tg_name (pg_name (i := 6) scSLook.nd rfl (Or.inl rfl)))) (fun _ _ _ _ _ => (tw_name (by decide))) (fun _ _ _ _ _ => (te_cmp op_ne r2_neS (nomark _) (PuD.vi (pu_var (pv 6))) (PuD.vi (pu_ix (PuD.vi (pu_dg (hu_of hr) (PuD.vi (pu_var (pv 1))) (PuD.vi (pu_c pe_str (by decide +kernel))) (fun _ _ => rfl))) (PuD.vi (pu_var (pv 4))) (fun _ _ => rfl))))) (fun _ _ _ _ _ => (pu_var (pv 6)))) rfl scSLook.nd)) (LcD.set (i := 8) (lcI [("_law_name", 6)] (it_seq (pu_var (pv 5))) (blkOk_by (N := nSLook) (sc := defScope sSLook) (by decide +kernel)) (fun _ _ _ _ _ => (tg_name (pg_name (i := 6) scSLook.nd rfl (Or.inl rfl)))) (fun _ _ _ _ _ => (tw_name (by decide))) (fun _ _ _ _ _ => (te_cmp op_ne r2_neS (nomark _) (PuD.vi (pu_var (pv 6))) (PuD.vi (pu_ix (PuD.vi (pu_dg (hu_of hr) (PuD.vi (pu_var (pv 1))) (PuD.vi (pu_c pe_str (by decide +kernel))) (fun _ _ => rfl))) (PuD.vi (pu_var (pv 4))) (fun _ _ => rfl))))) (fun _ _ _ _ _ => (pu_var (pv 6)))) rfl scSLook.nd rfl rfl (sw_true rfl rfl rfl (by decide +kernel))))) (ssw_cons (StD.w (sd_if (te_cmp op_eq r2_eqS (nomark _) (PuD.vi (pu_var (pv 3))) (PuD.vi (pu_c pe_int rfl))) (ss_one (sd_ret (pu_tup (ar_cons (pu_c pe_str (by decide +kernel)) ar_nil)))) ss_nil)) (ssw_cons (StD.w (sd_if (TwD.te (tw_and (te_cmp op_eq r2_eqS (nomark _) (PuD.vi (pu_var (pv 3))) (PuD.vi (pu_c pe_int rfl))) (tw_and1 (te_cmp (op_neD (hr.units)) r2_neD (nomark _) (PuD.vi (pu_var (pv 8))) (PuD.vi (OwD.pu (ow_lst ar_nil))))))) (ss_one (sd_ret (pu_tup (ar_cons (pu_c pe_str (by decide +kernel)) (ar_cons (pu_ix (PuD.vi (pu_dg (hu_of hr) (PuD.vi (pu_var (pv 1))) (PuD.vi (pu_c pe_str (by decide +kernel))) (fun _ _ => rfl))) (PuD.vi (pu_var (pv 4))) (fun _ _ => rfl)) (ar_cons (pu_ix (PuD.vi (pu_var (pv 8))) (PuD.vi (pu_c pe_int rfl)) (fun _ _ => rfl)) ar_nil)))))) ss_nil)) (ssw_cons (sw_if (TeD.w (TwD.te (tw_and (te_cmp op_eq r2_eqS (nomark _) (PuD.vi (pu_var (pv 3))) (PuD.vi (pu_c pe_int rfl))) (tw_and1 (te_cmp op_gt (r2_I0 fun _ _ => rfl) (nomark _) (PuD.vi (pu_var (pv 2))) (PuD.vi (pu_c pe_int rfl))))))) (ssw_one (sw_ret (pw_tup (aw_cons (PuD.w (pu_c pe_str (by decide +kernel))) (aw_cons (pw_cty call_tuple_of r1_tup (by rfl) B.z_tuple (by decide +kernel) (aw_cons (pw_call hSm subS (hr.mono (by first | decide | omega)) (by rfl) (aw_cons (PuD.w (pu_var (pv 0))) (aw_cons (PuD.w (OwD.pu (ow_listRg rfl (by rfl) B.z_list (by rfl) B.z_range (pu_c pe_int rfl) (pu_add (PuD.vi (pu_var (pv 2))) (PuD.vi (pu_c pe_int rfl)))))) aw_nil))) aw_nil)) aw_nil))))) (SsD.w ss_nil)) (ssw_cons (StD.w (sd_nm (pu_if (te_cmp op_isN r2_isN (nomark _) (PuD.vi (pu_ix (PuD.vi (pu_dg (hu_of hr) (PuD.vi (pu_var (pv 1))) (PuD.vi (pu_c pe_str (by decide +kernel))) (fun _ _ => rfl))) (PuD.vi (pu_var (pv 4))) (fun _ _ => rfl))) (PuD.vi (pu_c pe_non rfl))) (pu_dg (hu_of hr) (PuD.vi (pu_var (pv 1))) (PuD.vi (pu_c pe_str (by decide +kernel))) (fun _ _ => rfl)) (OwD.pu (ow_cty (CallR.or call_list_of (call_list_dK rfl)) (R1O.or r1_lst r1_lstK) (by rfl) B.z_list (by decide +kernel) (av_cons (PuD.vi (pu_ix (PuD.vi (pu_dg (hu_of hr) (PuD.vi (pu_var (pv 1))) (PuD.vi (pu_c pe_str (by decide +kernel))) (fun _ _ => rfl))) (PuD.vi (pu_var (pv 4))) (fun _ _ => rfl))) av_nil)))) (fun h => ps_set (i := 9) scSLook.nd rfl (by first | exact Or.inl rfl | exact Or.inr rfl) h))) (ssw_one (sw_ret (pw_tup (aw_cons (PuD.w (pu_c pe_str (by decide +kernel))) (aw_cons (PuD.w (pu_ix (PuD.vi (pu_dg (hu_of hr) (PuD.vi (pu_var (pv 1))) (PuD.vi (pu_c pe_str (by decide +kernel))) (fun _ _ => rfl))) (PuD.vi (pu_var (pv 4))) (fun _ _ => rfl))) (aw_cons (pw_cty call_tuple_of r1_tup (by rfl) B.z_tuple (by decide +kernel) (aw_cons (pw_call hSm subS (hr.mono (by first | decide | omega)) (by rfl) (aw_cons (PuD.w (pu_var (pv 0))) (aw_cons (PuD.w (pu_var (pv 9))) aw_nil))) aw_nil)) aw_nil)))))))))))))⟩
end
end L2.K1

namespace L2.K1
open PySem PySem.Spec PyProof.Rows L2.Tr
section
variable {P : Program} {w : World} {K : PySem.W.Frag} {mg : Str → Option Value} {base : Heap}
abbrev sLook : Stmt := top 67
abbrev nLook : List Str := ["_law_stream", "_law_w", "_law_far", "_law_deep", "_law_way", "_law_one", "_law_kind"]
def FLook (a : Addr) (gLk : Addr → List D → Nat → (D → Nat → Prop) → Prop) : WF Nat Ou := (seqW (setW 4 (svP (ifW (lf (asBF (bin2 (intI fun i j => .bl (decide (j < i))) (atP 3) (kD (.leaf (.int 0)))))) (callW (drawW a) (consW (lf (atP 0)) (consW (lf (kD (.leaf (.int 6)))) nilW))) (lf (kD (.leaf (.int 5))))))) (seqW (ifSW (lf (asBF (bin2 (scD false) (atP 4) (kD (.leaf (.int 0)))))) (retW (tupW (consW (lf (kD (.leaf (.str "not")))) (consW (callW (gLk a) (consW (lf (atP 0)) (consW (lf (atP 1)) (consW (lf (atP 2)) (consW (lf (bin2 (intI fun i j => .int (i - j)) (atP 3) (kD (.leaf (.int 1))))) nilW))))) nilW)))) (lfS skipF)) (seqW (ifSW (lf (asBF (bin2 (intI fun i j => .bl (decide (i < j))) (atP 4) (kD (.leaf (.int 3)))))) (seqW (setW 5 (svP (callW (gLk a) (consW (lf (atP 0)) (consW (lf (atP 1)) (consW (lf (atP 2)) (consW (lf (bin2 (intI fun i j => .int (i - j)) (atP 3) (kD (.leaf (.int 1))))) nilW))))))) (seqW (setW 6 (svP (callW (fPickW a) (consW (lf (atP 0)) (consW (lf (mapS (lstDisp (consD (kD (.leaf (.str "and"))) (consD (kD (.leaf (.str "or"))) (consD (kD (.leaf (.str "less"))) (consD (kD (.leaf (.str "xor"))) nilD))))))) nilW))))) (retW (tupW (consW (lf (atP 6)) (consW (lf (atP 5)) (consW (callW (gLk a) (consW (lf (atP 0)) (consW (lf (atP 1)) (consW (lf (atP 2)) (consW (lf (bin2 (intI fun i j => .int (i - j)) (atP 3) (kD (.leaf (.int 1))))) nilW))))) nilW))))))) (lfS skipF)) (retW (callW (fSLook a) (consW (lf (atP 0)) (consW (lf (atP 1)) (consW (lf (atP 2)) nilW))))))))
def fLook (a : Addr) (gLk : Addr → List D → Nat → (D → Nat → Prop) → Prop) : List D → Nat → (D → Nat → Prop) → Prop := fun ds s R => ds.length = (["_law_stream", "_law_w", "_law_far", "_law_deep"] : List Str).length ∧ runW nLook.length (FLook a gLk ) ds s R
abbrev sLookOf : Stmt := top 68
abbrev nLookOf : List Str := ["_law_columns_here", "_law_look_here", "_law_kind", "_law_one", "_law_other"]
def FLookOf (C3 : Addr) (gHas gSame gNum gEv gAnd gOr gSub gXor gInv g : List D → Option D) : L2.Tr.Env → Option Out := (seqF (asgF (bin2 ixD (atP 1) (kD (.leaf (.int 0)))) (setF 2)) (seqF (ifS (asBF (bin2 (scD false) (atP 2) (kD (.leaf (.str "has"))))) (retF (app1 gHas (consD (atP 0) (consD (bin2 ixD (atP 1) (kD (.leaf (.int 1)))) (consD (bin2 ixD (atP 1) (kD (.leaf (.int 2)))) nilD))))) skipF) (seqF (ifS (asBF (bin2 (scD false) (atP 2) (kD (.leaf (.str "same"))))) (retF (app1 gSame (consD (atP 0) (consD (bin2 ixD (atP 1) (kD (.leaf (.int 1)))) (consD (bin2 ixD (atP 1) (kD (.leaf (.int 2)))) nilD))))) skipF) (seqF (ifS (asBF (bin2 (scD false) (atP 2) (kD (.leaf (.str "numbered"))))) (retF (app1 gNum (consD (atP 0) (consD (bin2 ixD (atP 1) (kD (.leaf (.int 1)))) nilD)))) skipF) (seqF (ifS (asBF (bin2 (scD false) (atP 2) (kD (.leaf (.str "every"))))) (retF (app1 gEv (consD (atP 0) nilD))) skipF) (seqF (asgF (app1 g (consD (atP 0) (consD (bin2 ixD (atP 1) (kD (.leaf (.int 1)))) nilD))) (setF 3)) (seqF (ifS (asBF (bin2 (scD false) (atP 2) (kD (.leaf (.str "not"))))) (retF (fun ρ => ((atP 3) ρ).bind (ownUD C3 gInv))) skipF) (seqF (asgF (app1 g (consD (atP 0) (consD (bin2 ixD (atP 1) (kD (.leaf (.int 2)))) nilD))) (setF 4)) (seqF (ifS (asBF (bin2 (scD false) (atP 2) (kD (.leaf (.str "and"))))) (retF (bin2 (ownBD C3 gAnd) (atP 3) (atP 4))) skipF) (seqF (ifS (asBF (bin2 (scD false) (atP 2) (kD (.leaf (.str "or"))))) (retF (bin2 (ownBD C3 gOr) (atP 3) (atP 4))) skipF) (retF (ifF (asBF (bin2 (scD false) (atP 2) (kD (.leaf (.str "less"))))) (bin2 (ownBD C3 gSub) (atP 3) (atP 4)) (bin2 (ownBD C3 gXor) (atP 3) (atP 4))))))))))))))
def fLookOf (C3 : Addr) (gHas gSame gNum gEv gAnd gOr gSub gXor gInv g : List D → Option D) (ds : List D) : Option D := if ds.length = (["_law_columns_here", "_law_look_here"] : List Str).length then runF nLookOf.length (FLookOf C3 gHas gSame gNum gEv gAnd gOr gSub gXor gInv g ) ds else none
abbrev sHolds : Stmt := top 88
abbrev nHolds : List Str := ["_law_w", "_law_look_here", "_law_row", "_law_number", "_law_kind", "_law_names", "_law_one", "_law_other"]
def FHolds (g : List D → Option D) : L2.Tr.Env → Option Out := (seqF (par_pp 4 5 (bin2 ixD (atP 1) (kD (.leaf (.int 0)))) (bin2 dgD (atP 0) (kD (.leaf (.str "names"))))) (seqF (ifS (asBF (bin2 (scD false) (atP 4) (kD (.leaf (.str "has"))))) (retF (bin2 (inD false) (bin2 ixD (atP 2) (bin2 indexD (atP 5) (bin2 ixD (atP 1) (kD (.leaf (.int 1)))))) (bin2 ixD (atP 1) (kD (.leaf (.int 2)))))) skipF) (seqF (ifS (asBF (bin2 (scD false) (atP 4) (kD (.leaf (.str "same"))))) (retF (bin2 (scD false) (bin2 ixD (atP 2) (bin2 indexD (atP 5) (bin2 ixD (atP 1) (kD (.leaf (.int 1)))))) (bin2 ixD (atP 2) (bin2 indexD (atP 5) (bin2 ixD (atP 1) (kD (.leaf (.int 2)))))))) skipF) (seqF (ifS (asBF (bin2 (scD false) (atP 4) (kD (.leaf (.str "numbered"))))) (retF (bin2 (inD false) (atP 3) (bin2 ixD (atP 1) (kD (.leaf (.int 1)))))) skipF) (seqF (ifS (asBF (bin2 (scD false) (atP 4) (kD (.leaf (.str "every"))))) (retF (kD (.leaf (.bl true)))) skipF) (seqF (asgF (app1 g (consD (atP 0) (consD (bin2 ixD (atP 1) (kD (.leaf (.int 1)))) (consD (atP 2) (consD (atP 3) nilD))))) (setF 6)) (seqF (ifS (asBF (bin2 (scD false) (atP 4) (kD (.leaf (.str "not"))))) (retF (notF (atP 6))) skipF) (seqF (asgF (app1 g (consD (atP 0) (consD (bin2 ixD (atP 1) (kD (.leaf (.int 2)))) (consD (atP 2) (consD (atP 3) nilD))))) (setF 7)) (retF (bin2 dgD (dispF ["and", "or", "less", "xor"] (consD (andF (atP 6) (atP 7)) (consD (orF (atP 6) (atP 7)) (consD (andF (atP 6) (notF (atP 7))) (consD (bin2 (scD true) (atP 6) (atP 7)) nilD))))) (atP 4)))))))))))
def fHolds (g : List D → Option D) (ds : List D) : Option D := if ds.length = (["_law_w", "_law_look_here", "_law_row", "_law_number"] : List Str).length then runF nHolds.length (FHolds g ) ds else none
abbrev sFinds : Stmt := top 78
abbrev nFinds : List Str := ["_law_w", "_law_look_here", "_law_found", "_law_row", "_law_number"]
theorem scFinds : FnScope nFinds ["_law_w", "_law_look_here"] (defScope sFinds) := ⟨rfl, rfl, rfl, by decide +kernel, rfl, by decide +kernel, by decide +kernel⟩
def FFinds (gHo : List D → Option D) : L2.Tr.Env → Option Out := (seqF (asgO 2 (lstDisp nilD)) (seqF (forF (seqsF (app1 fLetters (consD (atP 0) nilD))) (setF 3) (growF 2 (extArg (mapS (lcF [4] (seqsF (mapS (lstDisp (consD (kD (.leaf (.int 1))) (consD (kD (.leaf (.int 2))) (consD (kD (.leaf (.int 3))) (consD (kD (.leaf (.int 4))) (consD (kD (.leaf (.int 5))) nilD)))))))) (setF 4) yesF (app1 gHo (consD (atP 0) (consD (atP 1) (consD (atP 3) (consD (atP 4) nilD)))))))) fun xs ds => xs ++ ds)) (retO 2)))
def fFinds (gHo : List D → Option D) (ds : List D) : Option D := if ds.length = (["_law_w", "_law_look_here"] : List Str).length then runF nFinds.length (FFinds gHo ) ds else none
theorem okFinds {f : Addr} {fd : FuncData} (gHo : List D → Option D) (F : Fun K "_law_look_finds" "_law_look_finds" sFinds f fd) (B : TxB2 mg) (hLe : Fn P w K mg base "_law_letters" 2 1 fLetters) (hHo : Fn P w K mg base "_law_holds" 4 4 gHo) : FnOk P w K mg base CX0 5 f fd ["_law_w", "_law_look_here"] (spP (fFinds gHo )) :=
  ok_def (N := nFinds) (Φ := FFinds gHo ) F scFinds fun cdv A outer s H E hr => ⟨_, (ss_cons (sd_nmO (ow_lst ar_nil) (fun h => ps_set (i := 2) scFinds.nd rfl (by first | exact Or.inl rfl | exact Or.inr rfl) h)) (ss_cons (sd_for PassesOwn.never rfl (it_seq (pu_call hLe (hr.mono (by first | decide | omega)) (by rfl) (ar_cons (pu_var (pv 0)) ar_nil))) (tg_name (pg_name (i := 3) scFinds.nd rfl (by first | exact Or.inl rfl | exact Or.inr rfl))) (ss_one (sd_extK (i := 2) (OwD.pu (LcD.ow (lc0 [("_law_number", 4)] (it_seq (OwD.pu (ow_lst (ar_cons (pu_c pe_int rfl) (ar_cons (pu_c pe_int rfl) (ar_cons (pu_c pe_int rfl) (ar_cons (pu_c pe_int rfl) (ar_cons (pu_c pe_int rfl) ar_nil)))))))) (blkOk_by (N := nFinds) (sc := defScope sFinds) (by decide +kernel)) (fun _ _ _ _ _ => (tg_name (pg_name (i := 4) scFinds.nd rfl (Or.inl rfl)))) (fun _ _ _ _ _ => (tw_name (by decide))) (fun _ _ _ _ _ => (pu_call hHo (hr.mono (by first | decide | omega)) (by rfl) (ar_cons (pu_var (pv 0)) (ar_cons (pu_var (pv 1)) (ar_cons (pu_var (pv 3)) (ar_cons (pu_var (pv 4)) ar_nil))))))) rfl scFinds.nd)) (fun h => ps_expr (pe_bm PySem.F.plainAttrs_list PySem.F.slot_list_extend PySem.F.type_list_extend mt_extend (pv 2) (pa_cons h pa_nil)))))) (ss_one (sd_retO (pv 2)))))⟩
end
end L2.K1

/-! list.count of a flat thing among flat things. -/
namespace L2.Tr
open PySem PySem.Spec PyProof.Rows
section
variable {X : Cx}
def rCntV (K : PySem.W.Frag) : V → List V → Hp → VK → Prop := fun x xs H Q => ∃ (p : Addr) (ys : List V) (k : V), x = .ref p ∧ xs = [k] ∧ flatV k = true ∧ ys.all flatV = true ∧ SqL K H p ys ∧ Q (.int (ys.countP (fun y => eqV y k) : Nat)) H
def countVD : D → D → Option D
  | .seq true ds, .leaf k => if noR k = true then (leaves ds).map fun vs => .leaf (.int (vs.countP (fun y => eqV y k) : Nat)) else none
  | _, _ => none
variable {e o : Expr} {to t : TE} {φa φb : Env → Option D} {apos pos : Pos}
end
end L2.Tr

namespace L2.K1
open PySem PySem.Spec PyProof.Rows L2.Tr
/-- what a def with the stream promises that hands back a thing of its own -/
def spSO (f : Addr → List D → Nat → (D → Nat → Prop) → Prop) : Sp := fun vs H Q E => ∃ j : Addr × Addr, spWO (St j.1 j.2) (f j.1) vs H Q E
theorem subSO {f : Addr → List D → Nat → (D → Nat → Prop) → Prop} {a b : Addr} : ∀ vs H Q, spWO (St a b) (f a) vs H Q E0 → spSO f vs H Q E0 := fun vs H Q h => ⟨(a, b), h⟩
noncomputable section
variable {P : Program} {w : World} {K : PySem.W.Frag} {mg : Str → Option Value} {base : Heap}
abbrev sSource : Stmt := top 69
abbrev nSource : List Str := ["_law_stream", "_law_w", "_law_at", "_law_new", "_law_values", "_law_way", "_law_kin", "_law_name", "_law_some_here"]
theorem scSource : FnScope nSource ["_law_stream", "_law_w", "_law_at", "_law_new"] (defScope sSource) := ⟨rfl, rfl, rfl, by decide +kernel, rfl, by decide +kernel, by decide +kernel⟩
def FSource (a : Addr) : WF Nat Ou := (seqW (asgW (tupW (consW (lf (bin2 ixD (bin2 dgD (atP 1) (kD (.leaf (.str "values")))) (atP 2))) (consW (callW (drawW a) (consW (lf (atP 0)) (consW (lf (kD (.leaf (.int 6)))) nilW))) nilW))) (tupT 2 (consT (setF 4) (consT (setF 5) nilT)))) (seqW (lfS (asgF (mapS (lcF [7, 8] (zipF (bin2 dgD (atP 1) (kD (.leaf (.str "names")))) (bin2 dgD (atP 1) (kD (.leaf (.str "values"))))) (tupT 2 (consT (setF 7) (consT (setF 8) nilT))) (asBF (bin2 (eqP false) (atP 8) (atP 4))) (atP 7))) (setF 6))) (seqW (ifSW (lf (asBF (bin2 (scD false) (atP 5) (kD (.leaf (.int 0)))))) (retW (tupW (consW (lf (kD (.leaf (.str "column")))) (consW (callW (fPickW a) (consW (lf (atP 0)) (consW (lf (atP 6)) nilW))) nilW)))) (lfS skipF)) (seqW (ifSW (lf (andB (asBF (bin2 (isN false) (atP 4) (kD (.leaf .non)))) (andB (asBF (bin2 (intI fun i j => .bl (decide (i < j))) (atP 5) (kD (.leaf (.int 4))))) (asBF (bin2 (eqP true) (atP 3) (mapS (lstDisp nilD))))))) (retW (tupW (consW (callW (fPickW a) (consW (lf (atP 0)) (consW (lf (atP 3)) nilW))) nilW))) (lfS skipF)) (retW (tupW (consW (lf (kD (.leaf (.str "value")))) (consW (callW (fPickW a) (consW (lf (atP 0)) (consW (lf (ifF (asBF (bin2 (isN true) (atP 4) (kD (.leaf .non)))) (mapS (app1 lstA (consD (atP 4) nilD))) (bin2 dgD (atP 1) (kD (.leaf (.str "named")))))) nilW))) nilW))))))))
def fSource (a : Addr) : List D → Nat → (D → Nat → Prop) → Prop := fun ds s R => ds.length = (["_law_stream", "_law_w", "_law_at", "_law_new"] : List Str).length ∧ runW nSource.length (FSource a ) ds s R
theorem okSource {f : Addr} {fd : FuncData} (F : Fun K "_law_source" "_law_source" sSource f fd) (B : TxB2 mg) (hDr : FnE P w K mg base "_law_draw" 1 spDraw) (hPk : FnE P w K mg base "_law_pick" 2 (spS fPickW)) : FnOk P w K mg base CX0 3 f fd ["_law_stream", "_law_w", "_law_at", "_law_new"] (spS fun a => fSource a ) :=
  ok_defW (N := nSource) (Ωs := fun j : Addr × Addr => St j.1 j.2) (Φs := fun j => FSource j.1 ) F scSource fun j cdv A outer s H E hr => ⟨_, (ssw_cons (sw_asg (pw_tup (aw_cons (PuD.w (pu_ix (PuD.vi (pu_dg (hu_of hr) (PuD.vi (pu_var (pv 1))) (PuD.vi (pu_c pe_str (by decide +kernel))) (fun _ _ => rfl))) (PuD.vi (pu_var (pv 2))) (fun _ _ => rfl))) (aw_cons (pw_call hDr subDraw (hr.mono (by first | decide | omega)) (by rfl) (aw_cons (PuD.w (pu_var (pv 0))) (aw_cons (PuD.w (pu_c pe_int rfl)) aw_nil))) aw_nil))) (tg_tup rfl (tgs_cons (tg_name (pg_name (i := 4) scSource.nd rfl (by first | exact Or.inl rfl | exact Or.inr rfl))) (tgs_cons (tg_name (pg_name (i := 5) scSource.nd rfl (by first | exact Or.inl rfl | exact Or.inr rfl))) tgs_nil)))) (ssw_cons (StD.w (sd_set (OwD.pu (LcD.ow (lcI [("_law_name", 7), ("_law_some_here", 8)] (it_zip (pu_dg (hu_of hr) (PuD.vi (pu_var (pv 1))) (PuD.vi (pu_c pe_str (by decide +kernel))) (fun _ _ => rfl)) (pu_dg (hu_of hr) (PuD.vi (pu_var (pv 1))) (PuD.vi (pu_c pe_str (by decide +kernel))) (fun _ _ => rfl)) (by rfl) B.z_zip) (blkOk_by (N := nSource) (sc := defScope sSource) (by decide +kernel)) (fun _ _ _ _ _ => (tg_tup rfl (tgs_cons (tg_name (pg_name (i := 7) scSource.nd rfl (Or.inl rfl))) (tgs_cons (tg_name (pg_name (i := 8) scSource.nd rfl (Or.inl rfl))) tgs_nil)))) (fun _ _ _ _ _ => (tw_tup (tws_cons mono_nm (tw_name (by decide)) (tws_cons mono_nm (tw_name (by decide)) tws_nil)))) (fun _ _ _ _ _ => (te_cmp (op_eqD (hr.units)) r2_eqD (nomark _) (PuD.vi (pu_var (pv 8))) (PuD.vi (pu_var (pv 4))))) (fun _ _ _ _ _ => (pu_var (pv 7)))) rfl scSource.nd)) (LcD.set (i := 6) (lcI [("_law_name", 7), ("_law_some_here", 8)] (it_zip (pu_dg (hu_of hr) (PuD.vi (pu_var (pv 1))) (PuD.vi (pu_c pe_str (by decide +kernel))) (fun _ _ => rfl)) (pu_dg (hu_of hr) (PuD.vi (pu_var (pv 1))) (PuD.vi (pu_c pe_str (by decide +kernel))) (fun _ _ => rfl)) (by rfl) B.z_zip) (blkOk_by (N := nSource) (sc := defScope sSource) (by decide +kernel)) (fun _ _ _ _ _ => (tg_tup rfl (tgs_cons (tg_name (pg_name (i := 7) scSource.nd rfl (Or.inl rfl))) (tgs_cons (tg_name (pg_name (i := 8) scSource.nd rfl (Or.inl rfl))) tgs_nil)))) (fun _ _ _ _ _ => (tw_tup (tws_cons mono_nm (tw_name (by decide)) (tws_cons mono_nm (tw_name (by decide)) tws_nil)))) (fun _ _ _ _ _ => (te_cmp (op_eqD (hr.units)) r2_eqD (nomark _) (PuD.vi (pu_var (pv 8))) (PuD.vi (pu_var (pv 4))))) (fun _ _ _ _ _ => (pu_var (pv 7)))) rfl scSource.nd rfl rfl (sw_true rfl rfl rfl (by decide +kernel))))) (ssw_cons (sw_if (TeD.w (te_cmp op_eq r2_eqS (nomark _) (PuD.vi (pu_var (pv 5))) (PuD.vi (pu_c pe_int rfl)))) (ssw_one (sw_ret (pw_tup (aw_cons (PuD.w (pu_c pe_str (by decide +kernel))) (aw_cons (pw_call hPk subS (hr.mono (by first | decide | omega)) (by rfl) (aw_cons (PuD.w (pu_var (pv 0))) (aw_cons (PuD.w (pu_var (pv 6))) aw_nil))) aw_nil))))) (SsD.w ss_nil)) (ssw_cons (sw_if (TeD.w (TwD.te (tw_and (te_cmp op_isN r2_isN (nomark _) (PuD.vi (pu_var (pv 4))) (PuD.vi (pu_c pe_non rfl))) (tw_and (te_cmp op_lt (r2_I0 fun _ _ => rfl) (nomark _) (PuD.vi (pu_var (pv 5))) (PuD.vi (pu_c pe_int rfl))) (tw_and1 (te_cmp (op_neD (hr.units)) r2_neD (nomark _) (PuD.vi (pu_var (pv 3))) (PuD.vi (OwD.pu (ow_lst ar_nil))))))))) (ssw_one (sw_ret (pw_tup (aw_cons (pw_call hPk subS (hr.mono (by first | decide | omega)) (by rfl) (aw_cons (PuD.w (pu_var (pv 0))) (aw_cons (PuD.w (pu_var (pv 3))) aw_nil))) aw_nil)))) (SsD.w ss_nil)) (ssw_one (sw_ret (pw_tup (aw_cons (PuD.w (pu_c pe_str (by decide +kernel))) (aw_cons (pw_call hPk subS (hr.mono (by first | decide | omega)) (by rfl) (aw_cons (PuD.w (pu_var (pv 0))) (aw_cons (PuD.w (pu_if (te_cmp op_notN r2_notN (nomark _) (PuD.vi (pu_var (pv 4))) (PuD.vi (pu_c pe_non rfl))) (OwD.pu (ow_cty (CallR.or call_list_of (call_list_dK rfl)) (R1O.or r1_lst r1_lstK) (by rfl) B.z_list (by decide +kernel) (av_cons (PuD.vi (pu_var (pv 4))) av_nil))) (pu_dg (hu_of hr) (PuD.vi (pu_var (pv 1))) (PuD.vi (pu_c pe_str (by decide +kernel))) (fun _ _ => rfl)))) aw_nil))) aw_nil)))))))))⟩
abbrev sChange : Stmt := top 70
abbrev nChange : List Str := ["_law_stream", "_law_w", "_law_new", "_law_found", "_law_at", "_law_name"]
theorem scChange : FnScope nChange ["_law_stream", "_law_w", "_law_new"] (defScope sChange) := ⟨rfl, rfl, rfl, by decide +kernel, rfl, by decide +kernel, by decide +kernel⟩
def FChange (a : Addr) : WF Nat Ou := (seqW (lfS (asgO 3 (lstDisp nilD))) (seqW (forW (lf (enumF (bin2 dgD (atP 1) (kD (.leaf (.str "names")))))) (tupT 2 (consT (setF 4) (consT (setF 5) nilT))) (ifSW (orW (asW (b2W (scD false) (callW (drawW a) (consW (lf (atP 0)) (consW (lf (kD (.leaf (.int 2)))) nilW))) (lf (kD (.leaf (.int 0)))))) (lf (andB (asBF (bin2 (scD false) (bin2 addD (atP 4) (kD (.leaf (.int 1)))) (app1 lenA (consD (bin2 dgD (atP 1) (kD (.leaf (.str "names")))) nilD)))) (asBF (bin2 (eqP false) (atV 3) (mapS (lstDisp nilD))))))) (growW 3 (tupW (consW (lf (atP 5)) (consW (callW (fSource a) (consW (lf (atP 0)) (consW (lf (atP 1)) (consW (lf (atP 4)) (consW (lf (atP 2)) nilW))))) nilW))) fun xs d => xs ++ [d]) (lfS skipF))) (lfS (retO 3))))
def fChange (a : Addr) : List D → Nat → (D → Nat → Prop) → Prop := fun ds s R => ds.length = (["_law_stream", "_law_w", "_law_new"] : List Str).length ∧ runW nChange.length (FChange a ) ds s R
theorem okChange {f : Addr} {fd : FuncData} (F : Fun K "_law_change" "_law_change" sChange f fd) (B : TxB2 mg) (hDr : FnE P w K mg base "_law_draw" 1 spDraw) (hSo : FnE P w K mg base "_law_source" 3 (spS fSource)) : FnOk P w K mg base CX0 4 f fd ["_law_stream", "_law_w", "_law_new"] (spS fun a => fChange a ) :=
  ok_defW (N := nChange) (Ωs := fun j : Addr × Addr => St j.1 j.2) (Φs := fun j => FChange j.1 ) F scChange fun j cdv A outer s H E hr => ⟨_, (ssw_cons (StD.w (sd_nmO (ow_lst ar_nil) (fun h => ps_set (i := 3) scChange.nd rfl (by first | exact Or.inl rfl | exact Or.inr rfl) h))) (ssw_cons (sw_for PassesOwn.never rfl (ItD.w (it_enum (pu_dg (hu_of hr) (PuD.vi (pu_var (pv 1))) (PuD.vi (pu_c pe_str (by decide +kernel))) (fun _ _ => rfl)) (by rfl) B.z_enumerate)) (tg_tup rfl (tgs_cons (tg_name (pg_name (i := 4) scChange.nd rfl (by first | exact Or.inl rfl | exact Or.inr rfl))) (tgs_cons (tg_name (pg_name (i := 5) scChange.nd rfl (by first | exact Or.inl rfl | exact Or.inr rfl))) tgs_nil))) (ssw_one (sw_if (TwW.te (tww_or (tw_cmp op_eq r2_eqS (nomark _) (pw_call hDr subDraw (hr.mono (by first | decide | omega)) (by rfl) (aw_cons (PuD.w (pu_var (pv 0))) (aw_cons (PuD.w (pu_c pe_int rfl)) aw_nil))) (PuD.w (pu_c pe_int rfl))) (tww_or1 (TeD.w (TwD.te (tw_and (te_cmp op_eq r2_eqS (nomark _) (PuD.vi (pu_add (PuD.vi (pu_var (pv 4))) (PuD.vi (pu_c pe_int rfl)))) (PuD.vi (pu_cb (CallR.or call_len call_lenD) (R1D.or r1_len r1_lenK) (by rfl) B.z_len (by decide +kernel) (av_cons (PuD.vi (pu_dg (hu_of hr) (PuD.vi (pu_var (pv 1))) (PuD.vi (pu_c pe_str (by decide +kernel))) (fun _ _ => rfl))) av_nil)))) (tw_and1 (te_cmp (op_eqD (hr.units)) r2_eqD (nomark _) (vi_var (pv 3)) (PuD.vi (OwD.pu (ow_lst ar_nil))))))))))) (ssw_one (sw_app (i := 3) (pw_tup (aw_cons (PuD.w (pu_var (pv 5))) (aw_cons (pw_call hSo subS (hr.mono (by first | decide | omega)) (by rfl) (aw_cons (PuD.w (pu_var (pv 0))) (aw_cons (PuD.w (pu_var (pv 1))) (aw_cons (PuD.w (pu_var (pv 4))) (aw_cons (PuD.w (pu_var (pv 2))) aw_nil))))) aw_nil))) (fun h => ps_expr (pe_bm PySem.F.plainAttrs_list PySem.F.slot_list_append PySem.F.type_list_append mt_append (pv 3) (pa_cons h pa_nil))))) (SsD.w ss_nil)))) (SsD.w (ss_one (sd_retO (pv 3))))))⟩
abbrev sOrder : Stmt := top 71
abbrev nOrder : List Str := ["_law_stream", "_law_w", "_law_ways", "_law_told", "_law_name", "_law_some_here", "_law_found"]
theorem scOrder : FnScope nOrder ["_law_stream", "_law_w", "_law_ways"] (defScope sOrder) := ⟨rfl, rfl, rfl, by decide +kernel, rfl, by decide +kernel, by decide +kernel⟩
def FOrder (a : Addr) : WF Nat Ou := (seqW (lfS (asgF (mapS (lcF [4, 5] (zipF (bin2 dgD (atP 1) (kD (.leaf (.str "names")))) (bin2 dgD (atP 1) (kD (.leaf (.str "values"))))) (tupT 2 (consT (setF 4) (consT (setF 5) nilT))) (asBF (bin2 (isN true) (atP 5) (kD (.leaf .non)))) (atP 4))) (setF 3))) (seqW (lfS (asgO 6 (lstDisp nilD))) (seqW (ifSW (andW (lf (asBF (bin2 (eqP true) (atP 3) (mapS (lstDisp nilD))))) (andW (lf (asBF (bin2 (inD false) (kD (.leaf (.str "column"))) (atP 2)))) (asW (b2W (scD false) (callW (drawW a) (consW (lf (atP 0)) (consW (lf (kD (.leaf (.int 2)))) nilW))) (lf (kD (.leaf (.int 0)))))))) (growW 6 (b2W addD (callW (fPickW a) (consW (lf (atP 0)) (consW (lf (mapS (lstDisp (consD (kD (.leaf (.str ""))) (consD (kD (.leaf (.str "-"))) nilD))))) nilW))) (callW (fPickW a) (consW (lf (atP 0)) (consW (lf (atP 3)) nilW)))) fun xs d => xs ++ [d]) (lfS skipF)) (seqW (ifSW (andW (lf (asBF (bin2 (inD false) (kD (.leaf (.str "number"))) (atP 2)))) (asW (b2W (scD false) (callW (drawW a) (consW (lf (atP 0)) (consW (lf (kD (.leaf (.int 2)))) nilW))) (lf (kD (.leaf (.int 0))))))) (growW 6 (callW (fPickW a) (consW (lf (atP 0)) (consW (lf (mapS (lstDisp (consD (kD (.leaf (.str "number"))) (consD (kD (.leaf (.str "-number"))) nilD))))) nilW))) fun xs d => xs ++ [d]) (lfS skipF)) (lfS (retO 6))))))
def fOrder (a : Addr) : List D → Nat → (D → Nat → Prop) → Prop := fun ds s R => ds.length = (["_law_stream", "_law_w", "_law_ways"] : List Str).length ∧ runW nOrder.length (FOrder a ) ds s R
theorem okOrder {f : Addr} {fd : FuncData} (F : Fun K "_law_order" "_law_order" sOrder f fd) (B : TxB2 mg) (hDr : FnE P w K mg base "_law_draw" 1 spDraw) (hPk : FnE P w K mg base "_law_pick" 2 (spS fPickW)) : FnOk P w K mg base CX0 3 f fd ["_law_stream", "_law_w", "_law_ways"] (spS fun a => fOrder a ) :=
  ok_defW (N := nOrder) (Ωs := fun j : Addr × Addr => St j.1 j.2) (Φs := fun j => FOrder j.1 ) F scOrder fun j cdv A outer s H E hr => ⟨_, (ssw_cons (StD.w (sd_set (OwD.pu (LcD.ow (lcI [("_law_name", 4), ("_law_some_here", 5)] (it_zip (pu_dg (hu_of hr) (PuD.vi (pu_var (pv 1))) (PuD.vi (pu_c pe_str (by decide +kernel))) (fun _ _ => rfl)) (pu_dg (hu_of hr) (PuD.vi (pu_var (pv 1))) (PuD.vi (pu_c pe_str (by decide +kernel))) (fun _ _ => rfl)) (by rfl) B.z_zip) (blkOk_by (N := nOrder) (sc := defScope sOrder) (by decide +kernel)) (fun _ _ _ _ _ => (tg_tup rfl (tgs_cons (tg_name (pg_name (i := 4) scOrder.nd rfl (Or.inl rfl))) (tgs_cons (tg_name (pg_name (i := 5) scOrder.nd rfl (Or.inl rfl))) tgs_nil)))) (fun _ _ _ _ _ => (tw_tup (tws_cons mono_nm (tw_name (by decide)) (tws_cons mono_nm (tw_name (by decide)) tws_nil)))) (fun _ _ _ _ _ => (te_cmp op_notN r2_notN (nomark _) (PuD.vi (pu_var (pv 5))) (PuD.vi (pu_c pe_non rfl)))) (fun _ _ _ _ _ => (pu_var (pv 4)))) rfl scOrder.nd)) (LcD.set (i := 3) (lcI [("_law_name", 4), ("_law_some_here", 5)] (it_zip (pu_dg (hu_of hr) (PuD.vi (pu_var (pv 1))) (PuD.vi (pu_c pe_str (by decide +kernel))) (fun _ _ => rfl)) (pu_dg (hu_of hr) (PuD.vi (pu_var (pv 1))) (PuD.vi (pu_c pe_str (by decide +kernel))) (fun _ _ => rfl)) (by rfl) B.z_zip) (blkOk_by (N := nOrder) (sc := defScope sOrder) (by decide +kernel)) (fun _ _ _ _ _ => (tg_tup rfl (tgs_cons (tg_name (pg_name (i := 4) scOrder.nd rfl (Or.inl rfl))) (tgs_cons (tg_name (pg_name (i := 5) scOrder.nd rfl (Or.inl rfl))) tgs_nil)))) (fun _ _ _ _ _ => (tw_tup (tws_cons mono_nm (tw_name (by decide)) (tws_cons mono_nm (tw_name (by decide)) tws_nil)))) (fun _ _ _ _ _ => (te_cmp op_notN r2_notN (nomark _) (PuD.vi (pu_var (pv 5))) (PuD.vi (pu_c pe_non rfl)))) (fun _ _ _ _ _ => (pu_var (pv 4)))) rfl scOrder.nd rfl rfl (sw_true rfl rfl rfl (by decide +kernel))))) (ssw_cons (StD.w (sd_nmO (ow_lst ar_nil) (fun h => ps_set (i := 6) scOrder.nd rfl (by first | exact Or.inl rfl | exact Or.inr rfl) h))) (ssw_cons (sw_if (TwW.te (tww_and (TeD.w (te_cmp (op_neD (hr.units)) r2_neD (nomark _) (PuD.vi (pu_var (pv 3))) (PuD.vi (OwD.pu (ow_lst ar_nil))))) (tww_and (TeD.w (te_cmp op_in_seq r2_in (by with_unfolding_all rfl) (PuD.vi (pu_c pe_str (by decide +kernel))) (PuD.vi (pu_var (pv 2))))) (tww_and1 (tw_cmp op_eq r2_eqS (nomark _) (pw_call hDr subDraw (hr.mono (by first | decide | omega)) (by rfl) (aw_cons (PuD.w (pu_var (pv 0))) (aw_cons (PuD.w (pu_c pe_int rfl)) aw_nil))) (PuD.w (pu_c pe_int rfl))))))) (ssw_one (sw_app (i := 6) (pw_op (OpR.or op_add (OpR.or op_add_str (OpR.or op_cat op_catA))) (R2D.or (r2_I0 fun _ _ => rfl) (R2D.or r2_str (R2D.or r2_catO.d r2_catT))) (pw_call hPk subS (hr.mono (by first | decide | omega)) (by rfl) (aw_cons (PuD.w (pu_var (pv 0))) (aw_cons (PuD.w (OwD.pu (ow_lst (ar_cons (pu_c pe_str (by decide +kernel)) (ar_cons (pu_c pe_str (by decide +kernel)) ar_nil))))) aw_nil))) (pw_call hPk subS (hr.mono (by first | decide | omega)) (by rfl) (aw_cons (PuD.w (pu_var (pv 0))) (aw_cons (PuD.w (pu_var (pv 3))) aw_nil)))) (fun h => ps_expr (pe_bm PySem.F.plainAttrs_list PySem.F.slot_list_append PySem.F.type_list_append mt_append (pv 6) (pa_cons h pa_nil))))) (SsD.w ss_nil)) (ssw_cons (sw_if (TwW.te (tww_and (TeD.w (te_cmp op_in_seq r2_in (by with_unfolding_all rfl) (PuD.vi (pu_c pe_str (by decide +kernel))) (PuD.vi (pu_var (pv 2))))) (tww_and1 (tw_cmp op_eq r2_eqS (nomark _) (pw_call hDr subDraw (hr.mono (by first | decide | omega)) (by rfl) (aw_cons (PuD.w (pu_var (pv 0))) (aw_cons (PuD.w (pu_c pe_int rfl)) aw_nil))) (PuD.w (pu_c pe_int rfl)))))) (ssw_one (sw_app (i := 6) (pw_call hPk subS (hr.mono (by first | decide | omega)) (by rfl) (aw_cons (PuD.w (pu_var (pv 0))) (aw_cons (PuD.w (OwD.pu (ow_lst (ar_cons (pu_c pe_str (by decide +kernel)) (ar_cons (pu_c pe_str (by decide +kernel)) ar_nil))))) aw_nil))) (fun h => ps_expr (pe_bm PySem.F.plainAttrs_list PySem.F.slot_list_append PySem.F.type_list_append mt_append (pv 6) (pa_cons h pa_nil))))) (SsD.w ss_nil)) (SsD.w (ss_one (sd_retO (pv 6))))))))⟩
abbrev sBare : Stmt := top 72
abbrev nBare : List Str := ["_law_kind", "_law_found"]
theorem scBare : FnScope nBare ["_law_kind"] (defScope sBare) := ⟨rfl, rfl, rfl, by decide +kernel, rfl, by decide +kernel, by decide +kernel⟩
def FBare (a : Addr) : WF Nat D := (tailW (setW 1 (svO (lf (dispF ["kind", "look", "many", "by", "when", "must"] (consD (atP 0) (consD (tupDisp (consD (kD (.leaf (.str "every"))) nilD)) (consD (kD (.leaf .non)) (consD (mapS (lstDisp nilD)) (consD (kD (.leaf .non)) (consD (kD (.leaf (.bl false))) nilD)))))))))) (tailW (lfS (updF 1 (dispF ["how", "cells", "changes"] (consD (kD (.leaf (.str "words"))) (consD (tupDisp nilD) (consD (mapS (lstDisp nilD)) nilD)))))) (ownW 1)))
def fBare (a : Addr) : List D → Nat → (D → Nat → Prop) → Prop := fun ds s R => ds.length = (["_law_kind"] : List Str).length ∧ FBare a (env0 nBare.length ds) s R
theorem okBare {f : Addr} {fd : FuncData} (F : Fun K "_law_bare" "_law_bare" sBare f fd) (B : TxB2 mg) : FnOk P w K mg base CX0 1 f fd ["_law_kind"] (spSO fun a => fBare a ) :=
  ok_defWO (N := nBare) (Ωs := fun j : Addr × Addr => St j.1 j.2) (Ψs := fun j => FBare j.1 ) F scBare fun j cdv A outer s H E hr => ⟨_, (sow_cons (sw_set (i := 1) (OwW.sv (OtD.w (ot_disp (ks := ["kind", "look", "many", "by", "when", "must"]) (ds_cons (x := "kind") pe_str (pu_var (pv 0)) (ds_cons (x := "look") pe_str (pu_tup (ar_cons (pu_c pe_str (by decide +kernel)) ar_nil)) (ds_cons (x := "many") pe_str (pu_c pe_non rfl) (ds_cons (x := "by") pe_str (OwD.pu (ow_lst ar_nil)) (ds_cons (x := "when") pe_str (pu_c pe_non rfl) (ds_cons (x := "must") pe_str (pu_c pe_bl rfl) ds_nil)))))) (by decide +kernel) (by decide) rfl rfl (fun z => nomatch z) (by decide)))) (fun h => ps_set (i := 1) scBare.nd rfl (by first | exact Or.inl rfl | exact Or.inr rfl) h)) (sow_cons (StD.w (sd_upd (i := 1) (pu_disp (ks := ["how", "cells", "changes"]) (ds_cons (x := "how") pe_str (pu_c pe_str (by decide +kernel)) (ds_cons (x := "cells") pe_str (pu_tup ar_nil) (ds_cons (x := "changes") pe_str (OwD.pu (ow_lst ar_nil)) ds_nil))) (by decide +kernel) (by decide) rfl rfl (fun z => nomatch z) (by decide)) (fun h => ps_expr (pe_bm PySem.F.plainAttrs_dict PySem.F.slot_dict_update PySem.F.type_dict_update mtd_upd (pv 1) (pa_cons h pa_nil))))) (sow_ret (pv 1))))⟩
abbrev sPut : Stmt := top 73
abbrev nPut : List Str := ["_law_stream", "_law_w", "_law_new", "_law_found", "_law_cells", "_law_values"]
theorem scPut : FnScope nPut ["_law_stream", "_law_w", "_law_new"] (defScope sPut) := ⟨rfl, rfl, rfl, by decide +kernel, rfl, by decide +kernel, by decide +kernel⟩
def FPut (a : Addr) : WF Nat D := (tailW (par2W 3 4 (svO (callW (fBare a) (consW (lf (kD (.leaf (.str "put")))) nilW))) (svO (lf (mapS (lstDisp nilD))))) (tailW (forW (lf (seqsF (bin2 dgD (atP 1) (kD (.leaf (.str "values")))))) (setF 5) (ifSW (andW (lf (asBF (bin2 (isN false) (atP 5) (kD (.leaf .non))))) (andW (lf (asBF (bin2 (inD false) (kD (.leaf (.str "moment"))) (atP 2)))) (asW (b2W (scD false) (callW (drawW a) (consW (lf (atP 0)) (consW (lf (kD (.leaf (.int 2)))) nilW))) (lf (kD (.leaf (.int 0)))))))) (lfS (growF 4 (tupDisp (consD (kD (.leaf (.str "moment"))) nilD)) fun xs d => xs ++ [d])) (growW 4 (callW (fPickW a) (consW (lf (atP 0)) (consW (lf (ifF (asBF (bin2 (isN true) (atP 5) (kD (.leaf .non)))) (mapS (app1 lstA (consD (atP 5) nilD))) (bin2 dgD (atP 1) (kD (.leaf (.str "named")))))) nilW))) fun xs d => xs ++ [d]))) (tailW (dputW 3 (lf (kD (.leaf (.str "cells")))) (lf (app1 tupD (consD (atV 4) nilD)))) (ownW 3))))
def fPut (a : Addr) : List D → Nat → (D → Nat → Prop) → Prop := fun ds s R => ds.length = (["_law_stream", "_law_w", "_law_new"] : List Str).length ∧ FPut a (env0 nPut.length ds) s R
theorem okPut {f : Addr} {fd : FuncData} (F : Fun K "_law_put" "_law_put" sPut f fd) (B : TxB2 mg) (hDr : FnE P w K mg base "_law_draw" 1 spDraw) (hPk : FnE P w K mg base "_law_pick" 2 (spS fPickW)) (hBa : FnE P w K mg base "_law_bare" 1 (spSO fBare)) : FnOk P w K mg base CX0 3 f fd ["_law_stream", "_law_w", "_law_new"] (spSO fun a => fPut a ) :=
  ok_defWO (N := nPut) (Ωs := fun j : Addr × Addr => St j.1 j.2) (Ψs := fun j => FPut j.1 ) F scPut fun j cdv A outer s H E hr => ⟨_, (sow_cons (sw_par2 (OwW.sv (ow_call hBa subSO (hr.mono (by first | decide | omega)) (by rfl) (aw_cons (PuD.w (pu_c pe_str (by decide +kernel))) aw_nil))) (OwW.sv (OwD.w (ow_lst ar_nil))) (fun h => ps_par (i := 3) (j := 4) rfl scPut.nd rfl rfl (by decide) rfl rfl h (by rfl))) (sow_cons (sw_for PassesOwn.never rfl (ItD.w (it_seq (pu_dg (hu_of hr) (PuD.vi (pu_var (pv 1))) (PuD.vi (pu_c pe_str (by decide +kernel))) (fun _ _ => rfl)))) (tg_name (pg_name (i := 5) scPut.nd rfl (by first | exact Or.inl rfl | exact Or.inr rfl))) (ssw_one (sw_if (TwW.te (tww_and (TeD.w (te_cmp op_isN r2_isN (nomark _) (PuD.vi (pu_var (pv 5))) (PuD.vi (pu_c pe_non rfl)))) (tww_and (TeD.w (te_cmp op_in_seq r2_in (by with_unfolding_all rfl) (PuD.vi (pu_c pe_str (by decide +kernel))) (PuD.vi (pu_var (pv 2))))) (tww_and1 (tw_cmp op_eq r2_eqS (nomark _) (pw_call hDr subDraw (hr.mono (by first | decide | omega)) (by rfl) (aw_cons (PuD.w (pu_var (pv 0))) (aw_cons (PuD.w (pu_c pe_int rfl)) aw_nil))) (PuD.w (pu_c pe_int rfl))))))) (SsD.w (ss_one (sd_appK (i := 4) (pu_tup (ar_cons (pu_c pe_str (by decide +kernel)) ar_nil)) (fun h => ps_expr (pe_bm PySem.F.plainAttrs_list PySem.F.slot_list_append PySem.F.type_list_append mt_append (pv 4) (pa_cons h pa_nil)))))) (ssw_one (sw_app (i := 4) (pw_call hPk subS (hr.mono (by first | decide | omega)) (by rfl) (aw_cons (PuD.w (pu_var (pv 0))) (aw_cons (PuD.w (pu_if (te_cmp op_notN r2_notN (nomark _) (PuD.vi (pu_var (pv 5))) (PuD.vi (pu_c pe_non rfl))) (OwD.pu (ow_cty (CallR.or call_list_of (call_list_dK rfl)) (R1O.or r1_lst r1_lstK) (by rfl) B.z_list (by decide +kernel) (av_cons (PuD.vi (pu_var (pv 5))) av_nil))) (pu_dg (hu_of hr) (PuD.vi (pu_var (pv 1))) (PuD.vi (pu_c pe_str (by decide +kernel))) (fun _ _ => rfl)))) aw_nil))) (fun h => ps_expr (pe_bm PySem.F.plainAttrs_list PySem.F.slot_list_append PySem.F.type_list_append mt_append (pv 4) (pa_cons h pa_nil)))))))) (sow_cons (sw_dput (i := 3) (hu_of hr) (pv 3) (PuD.w (pu_c pe_str (by decide +kernel))) (PuD.w (pu_cty call_tuple_of r1_tup (by rfl) B.z_tuple (by decide +kernel) (av_cons (vi_var (pv 4)) av_nil)))) (sow_ret (pv 3)))))⟩
abbrev sStat : Stmt := top 74
abbrev nStat : List Str := ["_law_stream", "_law_w", "_law_has_what", "_law_way", "_law_found", "_law_turns", "_law_turn"]
theorem scStat : FnScope nStat ["_law_stream", "_law_w", "_law_has_what"] (defScope sStat) := ⟨rfl, rfl, rfl, by decide +kernel, rfl, by decide +kernel, by decide +kernel⟩
def FStat (a : Addr) (gLk : Addr → List D → Nat → (D → Nat → Prop) → Prop) : WF Nat D := (tailW (setW 3 (svP (callW (drawW a) (consW (lf (atP 0)) (consW (lf (kD (.leaf (.int 7)))) nilW))))) (tailW (ifSW (lf (asBF (bin2 (scD false) (atP 3) (kD (.leaf (.int 0)))))) (setW 4 (svO (callW (fPut a) (consW (lf (atP 0)) (consW (lf (atP 1)) (consW (lf (bin2 dgD (atP 2) (kD (.leaf (.str "new"))))) nilW)))))) (seqW (setW 4 (svO (callW (fBare a) (consW (lf (ifF (asBF (bin2 (intI fun i j => .bl (decide (i < j))) (atP 3) (kD (.leaf (.int 3))))) (kD (.leaf (.str "drop"))) (kD (.leaf (.str "change"))))) nilW)))) (seqW (dputW 4 (lf (kD (.leaf (.str "look")))) (callW (gLk a) (consW (lf (atP 0)) (consW (lf (atP 1)) (consW (lf (bin2 dgD (atP 2) (kD (.leaf (.str "most"))))) (consW (lf (kD (.leaf (.int 1)))) nilW)))))) (seqW (dputW 4 (lf (kD (.leaf (.str "many")))) (callW (fPickW a) (consW (lf (atP 0)) (consW (lf (bin2 dgD (atP 2) (kD (.leaf (.str "picks"))))) nilW)))) (seqW (ifSW (lf (asBF (bin2 (isN true) (bin2 dgD (atV 4) (kD (.leaf (.str "many")))) (kD (.leaf .non))))) (dputW 4 (lf (kD (.leaf (.str "by")))) (callW (fOrder a) (consW (lf (atP 0)) (consW (lf (atP 1)) (consW (lf (bin2 dgD (atP 2) (kD (.leaf (.str "ways"))))) nilW))))) (lfS skipF)) (seqW (lfS (asgF (ifF (asBF (bin2 (intI fun i j => .bl (decide (i < j))) (atP 3) (kD (.leaf (.int 3))))) (kD (.leaf (.int 0))) (ifF (asBF (bin2 (isN false) (bin2 dgD (atV 4) (kD (.leaf (.str "many")))) (kD (.leaf .non)))) (kD (.leaf (.int 1))) (bin2 dgD (atV 4) (kD (.leaf (.str "many")))))) (setF 5))) (dputW 4 (lf (kD (.leaf (.str "changes")))) (lcW [6] (lf (rngF (atP 5))) (setF 6) yesW (callW (fChange a) (consW (lf (atP 0)) (consW (lf (atP 1)) (consW (lf (bin2 dgD (atP 2) (kD (.leaf (.str "new"))))) nilW)))))))))))) (tailW (ifSW (andW (lf (asBF (bin2 (intI fun i j => .bl (decide (j < i))) (bin2 dgD (atP 2) (kD (.leaf (.str "guards")))) (kD (.leaf (.int 0)))))) (asW (b2W (scD false) (callW (drawW a) (consW (lf (atP 0)) (consW (lf (bin2 dgD (atP 2) (kD (.leaf (.str "guards"))))) nilW))) (lf (kD (.leaf (.int 0))))))) (dputW 4 (lf (kD (.leaf (.str "when")))) (tupW (consW (callW (fPickW a) (consW (lf (atP 0)) (consW (lf (mapS (lstDisp (consD (kD (.leaf (.str "some"))) (consD (kD (.leaf (.str "none"))) nilD))))) nilW))) (consW (callW (gLk a) (consW (lf (atP 0)) (consW (lf (atP 1)) (consW (lf (bin2 dgD (atP 2) (kD (.leaf (.str "most"))))) (consW (lf (kD (.leaf (.int 0)))) nilW))))) nilW)))) (lfS skipF)) (tailW (dputW 4 (lf (kD (.leaf (.str "how")))) (callW (fPickW a) (consW (lf (atP 0)) (consW (lf (bin2 dgD (atP 2) (kD (.leaf (.str "hows"))))) nilW)))) (ownW 4)))))
def fStat (a : Addr) (gLk : Addr → List D → Nat → (D → Nat → Prop) → Prop) : List D → Nat → (D → Nat → Prop) → Prop := fun ds s R => ds.length = (["_law_stream", "_law_w", "_law_has_what"] : List Str).length ∧ FStat a gLk (env0 nStat.length ds) s R
theorem okStat {f : Addr} {fd : FuncData} (gLk : Addr → List D → Nat → (D → Nat → Prop) → Prop) (F : Fun K "_law_statement" "_law_statement" sStat f fd) (B : TxB2 mg) (hDr : FnE P w K mg base "_law_draw" 1 spDraw) (hPk : FnE P w K mg base "_law_pick" 2 (spS fPickW)) (hLk : FnE P w K mg base "_law_look" 7 (spS gLk)) (hCg : FnE P w K mg base "_law_change" 4 (spS fChange)) (hOr : FnE P w K mg base "_law_order" 3 (spS fOrder)) (hBa : FnE P w K mg base "_law_bare" 1 (spSO fBare)) (hPu : FnE P w K mg base "_law_put" 3 (spSO fPut)) : FnOk P w K mg base CX0 8 f fd ["_law_stream", "_law_w", "_law_has_what"] (spSO fun a => fStat a gLk ) :=
  ok_defWO (N := nStat) (Ωs := fun j : Addr × Addr => St j.1 j.2) (Ψs := fun j => FStat j.1 gLk ) F scStat fun j cdv A outer s H E hr => ⟨_, (sow_cons (sw_set (i := 3) (PuW.sv (pw_call hDr subDraw (hr.mono (by first | decide | omega)) (by rfl) (aw_cons (PuD.w (pu_var (pv 0))) (aw_cons (PuD.w (pu_c pe_int rfl)) aw_nil)))) (fun h => ps_set (i := 3) scStat.nd rfl (by first | exact Or.inl rfl | exact Or.inr rfl) h)) (sow_cons (sw_if (TeD.w (te_cmp op_eq r2_eqS (nomark _) (PuD.vi (pu_var (pv 3))) (PuD.vi (pu_c pe_int rfl)))) (ssw_one (sw_set (i := 4) (OwW.sv (ow_call hPu subSO (hr.mono (by first | decide | omega)) (by rfl) (aw_cons (PuD.w (pu_var (pv 0))) (aw_cons (PuD.w (pu_var (pv 1))) (aw_cons (PuD.w (pu_dg (hu_of hr) (PuD.vi (pu_var (pv 2))) (PuD.vi (pu_c pe_str (by decide +kernel))) (fun _ _ => rfl))) aw_nil))))) (fun h => ps_set (i := 4) scStat.nd rfl (by first | exact Or.inl rfl | exact Or.inr rfl) h))) (ssw_cons (sw_set (i := 4) (OwW.sv (ow_call hBa subSO (hr.mono (by first | decide | omega)) (by rfl) (aw_cons (PuD.w (pu_if (te_cmp op_lt (r2_I0 fun _ _ => rfl) (nomark _) (PuD.vi (pu_var (pv 3))) (PuD.vi (pu_c pe_int rfl))) (pu_c pe_str (by decide +kernel)) (pu_c pe_str (by decide +kernel)))) aw_nil))) (fun h => ps_set (i := 4) scStat.nd rfl (by first | exact Or.inl rfl | exact Or.inr rfl) h)) (ssw_cons (sw_dput (i := 4) (hu_of hr) (pv 4) (PuD.w (pu_c pe_str (by decide +kernel))) (pw_call hLk subS (hr.mono (by first | decide | omega)) (by rfl) (aw_cons (PuD.w (pu_var (pv 0))) (aw_cons (PuD.w (pu_var (pv 1))) (aw_cons (PuD.w (pu_dg (hu_of hr) (PuD.vi (pu_var (pv 2))) (PuD.vi (pu_c pe_str (by decide +kernel))) (fun _ _ => rfl))) (aw_cons (PuD.w (pu_c pe_int rfl)) aw_nil)))))) (ssw_cons (sw_dput (i := 4) (hu_of hr) (pv 4) (PuD.w (pu_c pe_str (by decide +kernel))) (pw_call hPk subS (hr.mono (by first | decide | omega)) (by rfl) (aw_cons (PuD.w (pu_var (pv 0))) (aw_cons (PuD.w (pu_dg (hu_of hr) (PuD.vi (pu_var (pv 2))) (PuD.vi (pu_c pe_str (by decide +kernel))) (fun _ _ => rfl))) aw_nil)))) (ssw_cons (sw_if (TeD.w (te_cmp op_notN r2_notN (nomark _) (PuD.vi (pu_dg (hu_of hr) (vi_var (pv 4)) (PuD.vi (pu_c pe_str (by decide +kernel))) (fun _ _ => rfl))) (PuD.vi (pu_c pe_non rfl)))) (ssw_one (sw_dput (i := 4) (hu_of hr) (pv 4) (PuD.w (pu_c pe_str (by decide +kernel))) (pw_call hOr subS (hr.mono (by first | decide | omega)) (by rfl) (aw_cons (PuD.w (pu_var (pv 0))) (aw_cons (PuD.w (pu_var (pv 1))) (aw_cons (PuD.w (pu_dg (hu_of hr) (PuD.vi (pu_var (pv 2))) (PuD.vi (pu_c pe_str (by decide +kernel))) (fun _ _ => rfl))) aw_nil)))))) (SsD.w ss_nil)) (ssw_cons (StD.w (sd_nm (pu_if (te_cmp op_lt (r2_I0 fun _ _ => rfl) (nomark _) (PuD.vi (pu_var (pv 3))) (PuD.vi (pu_c pe_int rfl))) (pu_c pe_int rfl) (pu_if (te_cmp op_isN r2_isN (nomark _) (PuD.vi (pu_dg (hu_of hr) (vi_var (pv 4)) (PuD.vi (pu_c pe_str (by decide +kernel))) (fun _ _ => rfl))) (PuD.vi (pu_c pe_non rfl))) (pu_c pe_int rfl) (pu_dg (hu_of hr) (vi_var (pv 4)) (PuD.vi (pu_c pe_str (by decide +kernel))) (fun _ _ => rfl)))) (fun h => ps_set (i := 5) scStat.nd rfl (by first | exact Or.inl rfl | exact Or.inr rfl) h))) (ssw_one (sw_dput (i := 4) (hu_of hr) (pv 4) (PuD.w (pu_c pe_str (by decide +kernel))) (OwW.pu (LcW.ow (lcw0 [("_law_turn", 6)] (ItD.w (it_rng (pu_var (pv 5)) (by rfl) B.z_range)) (blkOk_by (N := nStat) (sc := defScope sStat) (by decide +kernel)) (fun _ _ _ _ _ => (tg_name (pg_name (i := 6) scStat.nd rfl (Or.inl rfl)))) (fun _ _ _ _ _ => (tw_name (by decide))) (fun _ _ _ _ _ => (pw_call hCg subS (hr.mono (by first | decide | omega)) (by rfl) (aw_cons (PuD.w (pu_var (pv 0))) (aw_cons (PuD.w (pu_var (pv 1))) (aw_cons (PuD.w (pu_dg (hu_of hr) (PuD.vi (pu_var (pv 2))) (PuD.vi (pu_c pe_str (by decide +kernel))) (fun _ _ => rfl))) aw_nil)))))) rfl scStat.nd)))))))))) (sow_cons (sw_if (TwW.te (tww_and (TeD.w (te_cmp op_gt (r2_I0 fun _ _ => rfl) (nomark _) (PuD.vi (pu_dg (hu_of hr) (PuD.vi (pu_var (pv 2))) (PuD.vi (pu_c pe_str (by decide +kernel))) (fun _ _ => rfl))) (PuD.vi (pu_c pe_int rfl)))) (tww_and1 (tw_cmp op_eq r2_eqS (nomark _) (pw_call hDr subDraw (hr.mono (by first | decide | omega)) (by rfl) (aw_cons (PuD.w (pu_var (pv 0))) (aw_cons (PuD.w (pu_dg (hu_of hr) (PuD.vi (pu_var (pv 2))) (PuD.vi (pu_c pe_str (by decide +kernel))) (fun _ _ => rfl))) aw_nil))) (PuD.w (pu_c pe_int rfl)))))) (ssw_one (sw_dput (i := 4) (hu_of hr) (pv 4) (PuD.w (pu_c pe_str (by decide +kernel))) (pw_tup (aw_cons (pw_call hPk subS (hr.mono (by first | decide | omega)) (by rfl) (aw_cons (PuD.w (pu_var (pv 0))) (aw_cons (PuD.w (OwD.pu (ow_lst (ar_cons (pu_c pe_str (by decide +kernel)) (ar_cons (pu_c pe_str (by decide +kernel)) ar_nil))))) aw_nil))) (aw_cons (pw_call hLk subS (hr.mono (by first | decide | omega)) (by rfl) (aw_cons (PuD.w (pu_var (pv 0))) (aw_cons (PuD.w (pu_var (pv 1))) (aw_cons (PuD.w (pu_dg (hu_of hr) (PuD.vi (pu_var (pv 2))) (PuD.vi (pu_c pe_str (by decide +kernel))) (fun _ _ => rfl))) (aw_cons (PuD.w (pu_c pe_int rfl)) aw_nil))))) aw_nil))))) (SsD.w ss_nil)) (sow_cons (sw_dput (i := 4) (hu_of hr) (pv 4) (PuD.w (pu_c pe_str (by decide +kernel))) (pw_call hPk subS (hr.mono (by first | decide | omega)) (by rfl) (aw_cons (PuD.w (pu_var (pv 0))) (aw_cons (PuD.w (pu_dg (hu_of hr) (PuD.vi (pu_var (pv 2))) (PuD.vi (pu_c pe_str (by decide +kernel))) (fun _ _ => rfl))) aw_nil)))) (sow_ret (pv 4))))))⟩
end
end L2.K1

namespace L2.K1
open PySem PySem.Spec PyProof.Rows L2.Tr
/-! values, pairs, names: where they are good -/
structure Vals (xs : List Str) : Prop where
  lo : 1 ≤ xs.length
  hi : xs.length ≤ 3
  ws : ∀ x ∈ xs, isW x = true
  nd : xs.Nodup
structure Nm (x : Str) : Prop where
  w : isW x = true
  n : x ≠ "number"
/-! can_stand -/
end L2.K1

namespace L2.K1
open PySem PySem.Spec PyProof.Rows L2.Tr
/-! Columns(told, free) -/
def iB1 : L2.Tr.Env → Option Out := seqF (ifS (orB (asBF (bin2 (scD false) (atP 4) (kD (.leaf (.int 3))))) (orB (notB (truF (app1 fTold (consD (atP 5) nilD)))) (bin2 (dinB false) (bin2 ixD (atP 5) (kD (.leaf (.int 0)))) (atV 3)))) neverF skipF) (dputF 3 (bin2 ixD (atP 5) (kD (.leaf (.int 0)))) (app1 tupD (consD (bin2 ixD (atP 5) (kD (.leaf (.int 1)))) nilD)))
def iB2 : L2.Tr.Env → Option Out := seqF (asgF (bin2 addD (app1 lenA (consD (atP 1) nilD)) (atP 6)) (setF 4)) (seqF (ifS (orB (asBF (bin2 (scD false) (atP 4) (kD (.leaf (.int 3))))) (orB (asBF (bin2 (scD false) (atP 6) (kD (.leaf (.int 2))))) (orB (notB (truF (app1 fIsN (consD (atP 7) nilD)))) (bin2 (dinB false) (atP 7) (atV 3))))) neverF skipF) (dputF 3 (atP 7) (kD (.leaf .non))))
theorem memK_str (x : Str) : ∀ ns : List Str, memK (.inr x) (ns.map Sum.inr) = decide (x ∈ ns)
  | [] => rfl
  | n :: ns => by
    show (decide ((Sum.inr n : Key) = .inr x) || memK (.inr x) (ns.map Sum.inr)) = _
    rw [memK_str x ns]
    by_cases h : n = x
    · subst h; simp
    · have h2 : x ≠ n := fun z => h z.symm
      have h3 : ¬ (Sum.inr n : Key) = .inr x := fun z => h (Sum.inr.inj z)
      simp [h2, h3]
namespace L2.K1
open PySem PySem.Spec PyProof.Rows L2.Tr
/-! what columns can do -/
def keysOf (ps : List (Str × List Str)) (xs : List Str) : List Str := ps.map (·.1) ++ xs
def valsOf (ps : List (Str × List Str)) (xs : List Str) : List D := (ps.map fun p => D.seq false (p.2.map sD)) ++ xs.map fun _ => D.leaf .non
theorem keys_len {ps : List (Str × List Str)} {xs : List Str} : (keysOf ps xs).length = ps.length + xs.length := by unfold keysOf; rw [List.length_append, List.length_map]
theorem Cols.nm {ps : List (Str × List Str)} {xs : List Str} (h : Cols ps xs) : ∀ x ∈ keysOf ps xs, Nm x := fun x hx => by
  rcases List.mem_append.mp hx with q | q
  · obtain ⟨p, hp, rfl⟩ := List.mem_map.mp q
    exact (h.t p hp).n
  · exact h.f x q
/-! is_row -/
end L2.K1

namespace L2.K1
open PySem PySem.Spec PyProof.Rows L2.Tr
/-! == of columns -/
abbrev Col := Str × Option (List Str)
def vD : Option (List Str) → D
  | none => .leaf .non
  | some xs => .seq false (xs.map sD)
def csOf (ps : List (Str × List Str)) (xs : List Str) : List Col := (ps.map fun p => (p.1, some p.2)) ++ xs.map fun x => (x, none)
def itemD (c : Col) : D := .seq false [sD c.1, vD c.2]
def valP : Option (List Str) → PyData
  | none => .none
  | some xs => .tuple (xs.map .str)
def itemP (c : Col) : PyData := .tuple [.str c.1, valP c.2]
structure ColOk (c : Col) : Prop where
  n : isW c.1 = true
  v : ∀ xs, c.2 = some xs → ∀ x ∈ xs, isW x = true
theorem Cols.ok {ps : List (Str × List Str)} {xs : List Str} (h : Cols ps xs) : ∀ c ∈ csOf ps xs, ColOk c := fun c hc => by
  rcases List.mem_append.mp hc with q | q
  · obtain ⟨p, hp, rfl⟩ := List.mem_map.mp q
    exact ⟨(h.t p hp).n.w, fun xs e => by cases e; exact (h.t p hp).v.ws⟩
  · obtain ⟨p, hp, rfl⟩ := List.mem_map.mp q
    exact ⟨(h.f p hp).w, fun xs e => by cases e⟩
end L2.K1

namespace L2.K1
open PySem PySem.Spec PyProof.Rows L2.Tr
/-! the law's same -/
/-! a world -/
def wD (ps : List (Str × List Str)) (xs named : List Str) : D := .dct [.inr "names", .inr "values", .inr "named"] [.seq true ((keysOf ps xs).map sD), .seq true (valsOf ps xs), .seq true (named.map sD)]
def pairsOf (ps : List (Str × List Str)) (xs : List Str) : List D := (csOf ps xs).map itemD
end L2.K1

namespace L2.K1
open PySem PySem.Spec PyProof.Rows L2.Tr
theorem lc_ {vs : List Nat} {ψ : L2.Tr.Env → Option (List D)} {θ : D → L2.Tr.Env → Option L2.Tr.Env} {χ : L2.Tr.Env → Option Bool} {φ : L2.Tr.Env → Option D} {ρ : L2.Tr.Env} {ds : List D} (h : ψ ρ = some ds) (hl : ds.length ≤ Lim) : lcF vs ψ θ χ φ ρ = compF θ χ φ ds (wipeE ρ vs) := by
  unfold lcF
  rw [h, Option.bind_some, if_pos hl]
def letv : Str := "abcdefghijklmnopqrstuv"
def candL : List Str := letv.cps.toList.map fun c => ("zz" : Str) ++ (⟨#[c]⟩ : Str)
def knownL (ps : List (Str × List Str)) (xs named : List Str) : List Str := (keysOf ps xs ++ named) ++ ps.flatMap (·.2)
def spareL (ps : List (Str × List Str)) (xs named : List Str) : List Str := candL.filter fun x => !decide (x ∈ knownL ps xs named)
def spB : L2.Tr.Env → Option Out := asgF (bin2 addD (atP 1) (mapS (app1 lstA (consD (orF (atP 2) (mapS (lstDisp nilD))) nilD)))) (setF 1)
def osOf (ps : List (Str × List Str)) (xs : List Str) : List (Option (List Str)) := (ps.map fun p => some p.2) ++ xs.map fun _ => none
theorem os_len {ps : List (Str × List Str)} {xs : List Str} : (osOf ps xs).length = ps.length + xs.length := by
  unfold osOf
  rw [List.length_append, List.length_map, List.length_map]
end L2.K1

namespace L2.K1
open PySem PySem.Spec PyProof.Rows L2.Tr
/-! all rows -/
theorem cut_to {α : Type} (xs : List α) (k : Nat) : L2.Tr.cutD xs none (some (k : Int)) = xs.take k := by
  unfold L2.Tr.cutD
  rw [HT.sIx_none, HT.sIx_nat, List.drop_zero, Nat.sub_zero]
  by_cases h : k ≤ xs.length
  · rw [Nat.min_eq_left h]
  · rw [Nat.min_eq_right (by omega), List.take_length, List.take_of_length_le (by omega)]
theorem cut_from {α : Type} (xs : List α) (k : Nat) : L2.Tr.cutD xs (some (k : Int)) none = xs.drop k := by
  unfold L2.Tr.cutD
  rw [HT.sIx_none, HT.sIx_nat]
  by_cases h : k ≤ xs.length
  · rw [Nat.min_eq_left h, List.take_of_length_le (by rw [List.length_drop]; exact Nat.le_refl _)]
  · rw [Nat.min_eq_right (by omega), Nat.sub_self, List.take_zero, List.drop_eq_nil_of_le (by omega)]
theorem sl_to {φ : L2.Tr.Env → Option D} {ρ : L2.Tr.Env} {xs : List D} {k : Nat} {ψ : L2.Tr.Env → Option D} {hi : L2.Tr.Env → Option (Option Int)} (h : φ ρ = some (.seq true xs)) (hk : hi ρ = some (some (k : Int))) :
    orE (mapS (slF slO φ (fun _ => some none) hi)) ψ ρ = some (.seq true (xs.take k)) := by
  have e : slF slO φ (fun _ => some none) hi ρ = some (xs.take k) := by
    unfold slF
    rw [h, Option.bind_some, Option.bind_some, hk, Option.bind_some]
    show some (L2.Tr.cutD xs none (some (k : Int))) = _
    rw [cut_to]
  unfold orE
  rw [maps_ e]; rfl
theorem sl_from {φ : L2.Tr.Env → Option D} {ρ : L2.Tr.Env} {xs : List D} {k : Nat} {ψ : L2.Tr.Env → Option D} {lo : L2.Tr.Env → Option (Option Int)} (h : φ ρ = some (.seq true xs)) (hk : lo ρ = some (some (k : Int))) :
    orE (mapS (slF slO φ lo (fun _ => some none))) ψ ρ = some (.seq true (xs.drop k)) := by
  have e : slF slO φ lo (fun _ => some none) ρ = some (xs.drop k) := by
    unfold slF
    rw [h, Option.bind_some, hk, Option.bind_some, Option.bind_some]
    show some (L2.Tr.cutD xs (some (k : Int)) none) = _
    rw [cut_from]
  unfold orE
  rw [maps_ e]; rfl
def rowsD (rs : List (List Str)) : List D := rs.map fun r => .seq false (r.map sD)
def someOf (named sp : List Str) (o : Option (List Str)) (r : List Str) : List Str := match o with
  | some xs => xs
  | none => named ++ (if sp.headD "" ∈ r then sp.take 2 else sp.take 1)
def lB : L2.Tr.Env → Option Out := seqF (asgF (ifF (asBF (bin2 (inD false) (bin2 ixD (atP 2) (kD (.leaf (.int 0)))) (atP 5))) (orE (mapS (slF slO (atP 2) (fun _ => some none) (partF (kD (.leaf (.int 2)))))) (slF slT (atP 2) (fun _ => some none) (partF (kD (.leaf (.int 2)))))) (orE (mapS (slF slO (atP 2) (fun _ => some none) (partF (kD (.leaf (.int 1)))))) (slF slT (atP 2) (fun _ => some none) (partF (kD (.leaf (.int 1))))))) (setF 6)) (seqF (asgF (ifF (asBF (bin2 (isN true) (atP 3) (kD (.leaf .non)))) (mapS (app1 lstA (consD (atP 3) nilD))) (bin2 addD (bin2 dgD (atP 0) (kD (.leaf (.str "named")))) (atP 6))) (setF 7)) (growF 4 (extArg (mapS (lcF [8] (seqsF (atP 7)) (setF 8) yesF (bin2 addD (atP 5) (tupDisp (consD (atP 8) nilD)))))) fun xs ds => xs ++ ds))
theorem asg_ {φ : L2.Tr.Env → Option D} {ρ : L2.Tr.Env} {i : Nat} {d : D} (h : φ ρ = some d) : asgF φ (setF i) ρ = some (.nx (ρ.set i (.pu d))) := by
  unfold asgF
  rw [h]; rfl
theorem someOf_len {named sp r : List Str} {o : Option (List Str)} (hn : named.length ≤ 2) (ho : ∀ xs, o = some xs → xs.length ≤ 3) : (someOf named sp o r).length ≤ 4 := by
  cases o with
  | some xs => have := ho xs rfl; show xs.length ≤ 4; omega
  | none =>
    show (named ++ _).length ≤ 4
    rw [List.length_append]
    split
    · have := List.length_take_le 2 sp; omega
    · have := List.length_take_le 1 sp; omega
end L2.K1

namespace L2.K1
open PySem PySem.Spec PyProof.Rows L2.Tr
def stepR (named sp : List Str) (o : Option (List Str)) (rs : List (List Str)) : List (List Str) := rs.flatMap fun r => (someOf named sp o r).map fun x => r ++ [x]
def rowsOf (named sp : List Str) : List (Option (List Str)) → List (List Str) → List (List Str)
  | [], rs => rs
  | o :: os, rs => rowsOf named sp os (stepR named sp o rs)
theorem step_len {named sp : List Str} {o : Option (List Str)} (hn : named.length ≤ 2) (ho : ∀ xs, o = some xs → xs.length ≤ 3) : ∀ rs : List (List Str), (stepR named sp o rs).length ≤ 4 * rs.length
  | [] => by unfold stepR; simp
  | r :: rs => by
    have ih := step_len (sp := sp) hn ho rs
    have := someOf_len (sp := sp) (r := r) hn ho
    unfold stepR at ih ⊢
    rw [List.flatMap_cons, List.length_append, List.length_map, List.length_cons]
    omega
def oB : L2.Tr.Env → Option Out := seqF (asgO 4 (lstDisp nilD)) (seqF (forF (seqsF (atP 1)) (setF 5) lB) (moveF 1 4))
/-! what stands in them -/
def Fits (o : Option (List Str)) (x : Str) : Prop := isW x = true ∧ ∀ xs, o = some xs → x ∈ xs
end L2.K1

namespace L2.K1
open PySem PySem.Spec PyProof.Rows L2.Tr
theorem sub_len {α : Type} [DecidableEq α] : ∀ {l m : List α}, l.Nodup → (∀ x ∈ l, x ∈ m) → l.length ≤ m.length
  | [], m, _, _ => Nat.zero_le _
  | a :: l, m, hn, h => by
    obtain ⟨h1, h2⟩ := List.nodup_cons.mp hn
    have ha := h a List.mem_cons_self
    have ih := sub_len (l := l) (m := m.erase a) h2 fun x hx => (List.mem_erase_of_ne fun z => h1 (by rw [← z]; exact hx)).mpr (h x (List.mem_cons_of_mem _ hx))
    have := List.length_erase_of_mem ha
    have := List.length_pos_of_mem ha
    rw [List.length_cons]
    omega
def FSp : L2.Tr.Env → Option D := (bin2 addD (mapS (lstDisp (consD (atP 4) nilD))) (mapS (lcF [6] (strsF (kD (.leaf (.str "abcdefghijklmnop")))) (setF 6) yesF (bin2 addD (bin2 addD (atP 6) (kD (.leaf (.str "q")))) (atP 6)))))
def FAp : L2.Tr.Env → Option D := (bin2 ixD (mapS (lcF [7] (seqsF (atP 5)) (setF 7) (andB (asBF (bin2 (inD true) (atP 7) (atV 2))) (asBF (bin2 (scD true) (atP 7) (kD (.leaf (.str "number")))))) (atP 7))) (kD (.leaf (.int 0))))
def letp : Str := "abcdefghijklmnop"
def cand16 : List Str := letp.cps.toList.map fun c => ((⟨#[c]⟩ : Str) ++ ("q" : Str)) ++ (⟨#[c]⟩ : Str)
def okNew (fs : List Str) (y : Str) : Bool := !decide (y ∈ fs) && decide (y ≠ "number")
/-! pick -/
/-! words -/
end L2.K1

namespace L2.K1
open PySem PySem.Spec PyProof.Rows L2.Tr
def cntD (ns : List Int) : D := .seq true (ns.map fun i => .leaf (.int i))
def shL : List (List Int × Int) := [([2, 2], 0), ([2], 1), ([], 2), ([3], 0)]
def shD : D := .seq true (shL.map fun p => .seq false [cntD p.1, .leaf (.int p.2)])
theorem loop_c {θ : D → L2.Tr.Env → Option L2.Tr.Env} {Φ : L2.Tr.Env → Option Out} {d : D} {ds : List D} {ρ ρ1 ρ2 : L2.Tr.Env} {o : Out} (h1 : θ d ρ = some ρ1) (h2 : Φ ρ1 = some (.nx ρ2)) (h3 : loopF θ Φ ds ρ2 = some o) : loopF θ Φ (d :: ds) ρ = some o := by
  unfold loopF
  rw [h1, Option.bind_some, h2]
  exact h3
theorem for_c {ψ : L2.Tr.Env → Option (List D)} {θ : D → L2.Tr.Env → Option L2.Tr.Env} {Φ : L2.Tr.Env → Option Out} {ds : List D} {ρ : L2.Tr.Env} {o : Out} (h : ψ ρ = some ds) (h2 : loopF θ Φ ds ρ = some o) : forF ψ θ Φ ρ = some o := by
  unfold forF
  rw [h]
  exact h2
namespace L2.K1
open PySem PySem.Spec PyProof.Rows L2.Tr
/-! the columns of a world -/
def toldT (ps : List (Str × List Str)) : List D := ps.map fun p => .seq false [sD p.1, .seq false (p.2.map sD)]
end L2.K1

/-! Whole numbers as rows of bits, one for each point; points of axes. -/
namespace L2.Tr
open PySem PySem.Spec PyProof.Rows
namespace L2.K1
open PySem PySem.Spec PyProof.Rows L2.Tr
/-! axes: how many points they have -/
abbrev iD (i : Int) : D := .leaf (.int i)
theorem mul_ok {i : Int} {j : Nat} (h : j < 2 ^ 64) : mulD (iD i) (iD (j : Int)) = some (iD (i * j)) := by
  unfold mulD
  show ite _ _ _ = _
  rw [if_pos ⟨by omega, by omega⟩]
theorem add_int (i j : Int) : addD (iD i) (iD j) = some (iD (i + j)) := rfl
theorem part_ {φ : L2.Tr.Env → Option D} {ρ : L2.Tr.Env} {i : Int} (h : φ ρ = some (iD i)) : partF φ ρ = some (some i) := by
  show ((φ ρ).bind asI).map some = _
  rw [h]; rfl
section
variable {K : PySem.W.Frag}
/-- d is an axis of these things -/
structure Ax (K : PySem.W.Frag) (d : D) (as : List D) : Prop where
  it : itemsK K d = some as
  ln : lenAK K [d] = some (iD (as.length : Nat))
  le : as.length ≤ 1000
theorem Ax.seq {b : Bool} {ds : List D} (h : ds.length ≤ 1000) : Ax K (.seq b ds) ds := ⟨rfl, rfl, h⟩
theorem Ax.mod {a : Addr} {vs : List V} (h : L2.Tr.KT K a vs) : Ax K (.leaf (.ref a)) (vs.map D.leaf) := ⟨by
    show (ktup K a).map _ = _
    rw [ktup_of h]; rfl, by
    show ((none : Option D).or none).or ((ktup K a).map _) = _
    rw [ktup_of h, List.length_map]; rfl, by rw [List.length_map]; exact h.l⟩
inductive Axs (K : PySem.W.Frag) : List D → List (List D) → Prop
  | nil : Axs K [] []
  | cons {d : D} {a : List D} {ds : List D} {as : List (List D)} : Ax K d a → Axs K ds as → Axs K (d :: ds) (a :: as)
theorem Axs.take {ds : List D} {as : List (List D)} (h : Axs K ds as) : ∀ n, Axs K (ds.take n) (as.take n) := by
  induction h with
  | nil => intro n; rw [List.take_nil, List.take_nil]; exact .nil
  | cons x _ ih =>
    intro n
    cases n with
    | zero => exact .nil
    | succ n => exact .cons x (ih n)
theorem Axs.drop {ds : List D} {as : List (List D)} (h : Axs K ds as) : ∀ n, Axs K (ds.drop n) (as.drop n) := by
  induction h with
  | nil => intro n; rw [List.drop_nil, List.drop_nil]; exact .nil
  | cons x t ih =>
    intro n
    cases n with
    | zero => exact .cons x t
    | succ n => exact ih n
theorem Axs.get {ds : List D} {as : List (List D)} (h : Axs K ds as) : ∀ {j : Nat} {a : List D}, as[j]? = some a → ∃ d, ds[j]? = some d ∧ Ax K d a := by
  induction h with
  | nil => intro j a e; simp at e
  | cons x _ ih =>
    intro j a e
    cases j with
    | zero => cases e; exact ⟨_, rfl, x⟩
    | succ j => exact ih e
theorem Axs.len {ds : List D} {as : List (List D)} (h : Axs K ds as) : ds.length = as.length := by
  induction h with
  | nil => rfl
  | cons _ _ ih => rw [List.length_cons, List.length_cons, ih]
theorem Axs.app {ds es : List D} {as bs : List (List D)} (h : Axs K ds as) (k : Axs K es bs) : Axs K (ds ++ es) (as ++ bs) := by
  induction h with
  | nil => exact k
  | cons x _ ih => exact .cons x ih
noncomputable def FCntB (K : PySem.W.Frag) : L2.Tr.Env → Option Out := asgF (bin2 mulD (atP 1) (app1 (lenAK K) (consD (atP 2) nilD))) (setF 1)
theorem cnt_loop {A : Sl} {ds : List D} {as : List (List D)} (h : Axs K ds as) : ∀ (c : Nat) (s2 : Sl), ∃ t2, loopF (setF 2) (FCntB K) ds [A, .pu (iD c), s2] = some (.nx [A, .pu (iD (as.foldl (fun c a => c * a.length) c : Nat)), t2]) := by
  induction h with
  | nil => intro c s2; exact ⟨s2, rfl⟩
  | @cons d a ds as x _ ih =>
    intro c s2
    obtain ⟨t2, h⟩ := ih (c * a.length) (.pu d)
    refine ⟨t2, loop_c (ρ1 := [A, .pu (iD c), .pu d]) (ρ2 := [A, .pu (iD ((c * a.length : Nat) : Int)), .pu d]) rfl (asg_ ?_) h⟩
    rw [bin_2 (d := iD c) (e := iD (a.length : Int)) rfl (by rw [app_1 (d := d) rfl]; exact x.ln), mul_ok (by have := x.le; omega)]
    rw [Int.natCast_mul]
theorem count_ok {b : Bool} {ds : List D} {as : List (List D)} (h : Axs K ds as) : fCount K [.seq b ds] = some (iD (prodN as : Nat)) := by
  obtain ⟨t2, e⟩ := cnt_loop (A := .pu (.seq b ds)) h 1 .un
  show runF nCount.length (FCount K) [.seq b ds] = _
  refine run_rt ?_
  show FCount K [.pu (.seq b ds), .un, .un] = _
  exact (seq_nx (asg_ (d := iD 1) rfl)).trans ((seq_nx (for_c (ds := ds) rfl e)).trans (ret_f rfl))
end
/-! texts of bits -/
abbrev bT (bs : List Bool) : D := sD (bitS bs)
theorem mul_bits {bs : List Bool} {k : Nat} (h : bs.length * k ≤ 1000) (hb : bs.length ≤ 1000) (hk : k ≤ 1000) : mulSD (bT bs) (iD (k : Int)) = some (bT (rpt k bs)) := by
  unfold mulSD
  show ite _ _ _ = _
  rw [if_pos ⟨by omega, by omega, by rw [bitS_len, Int.toNat_natCast]; exact h, by rw [bitS_len]; exact hb⟩, Int.toNat_natCast, bitS_rep]
theorem strs_map : ∀ ys : List Str, strsD (ys.map sD) = some ys
  | [] => rfl
  | y :: ys => by
    show (strsD (ys.map sD)).map (y :: ·) = _
    rw [strs_map ys]; rfl
theorem sum_flat : ∀ bss : List (List Bool), ((bss.map bitS).map (·.length)).sum = bss.flatten.length
  | [] => rfl
  | b :: bss => by
    rw [List.map_cons, List.map_cons, List.sum_cons, sum_flat bss, bitS_len, List.flatten_cons, List.length_append]
theorem joinB {bss : List (List Bool)} (h : bss.flatten.length ≤ 1000) : joinD (sD "") (.seq true (bss.map bT)) = some (bT bss.flatten) := by
  have e : bss.map bT = (bss.map bitS).map sD := by rw [List.map_map]; rfl
  unfold joinD
  rw [e]
  show (strsD ((bss.map bitS).map sD)).bind _ = _
  rw [strs_map, Option.bind_some, if_pos ⟨by rw [sum_flat]; show _ + _ * 0 ≤ _; omega, by rw [join_bits, bitS_len]; exact h⟩, join_bits]
theorem int2_ok {bs : List Bool} (h0 : bs ≠ []) (h : bs.length ≤ 640) : int2B [bT bs, iD 2] = some (iD (binV bs : Nat)) := by
  show (bitsOf (bs.map bc).toArray.toList).bind _ = _
  show (bitsOf (bs.map bc)).bind _ = _
  rw [bitsOf_map, Option.bind_some, if_pos ⟨h0, h⟩]
theorem rpt_bit (k : Nat) (b : Bool) : rpt k [b] = List.replicate k b := by
  unfold rpt
  induction k with
  | zero => rfl
  | succ k ih => rw [List.replicate_succ, List.flatten_cons, ih]; rfl
theorem bit1 (b : Bool) : (if b = true then sD "1" else sD "0") = bT [b] := by cases b <;> rfl
theorem prod_split {α : Type} : ∀ (as : List (List α)) (j : Nat) (x : List α), as[j]? = some x → prodN as = prodN (as.take j) * (x.length * prodN (as.drop (j + 1)))
  | [], _, _, h => by simp at h
  | a :: as, 0, x, h => by
    cases h
    rw [prod_cons]
    show _ = 1 * _
    rw [Nat.one_mul]; rfl
  | a :: as, j + 1, x, h => by
    rw [prod_cons, prod_split as j x h, List.take_succ_cons, prod_cons, Nat.mul_assoc]
    rfl
theorem flat_len {α : Type} (k : Nat) (f : α → List Bool) : ∀ (x : List α), (∀ d ∈ x, (f d).length = k) → (x.flatMap f).length = x.length * k
  | [], _ => by simp
  | d :: x, h => by
    rw [List.flatMap_cons, List.length_append, flat_len k f x fun e he => h e (List.mem_cons_of_mem _ he), h d List.mem_cons_self, List.length_cons, Nat.succ_mul, Nat.add_comm]
theorem fin_ok {K : PySem.W.Frag} {ds : List D} {as : List (List D)} {j : Nat} {x : List D} {b : Bool} {ts : List D} {g : Option D → Bool} (H : Axs K ds as) (hj : as[j]? = some x) (h1 : 1 ≤ prodN as) (h2 : prodN as ≤ 640) (hm : ∀ d ∈ x, inD false d (.seq b ts) = some (bD (g (some d)))) :
    fFIn K [.seq true ds, iD (j : Int), .seq b ts] = some (iD (numV (pts as) (fun p => g p[j]?) : Nat)) := by
  obtain ⟨d0, hd0, hax⟩ := H.get hj
  have hs := prod_split as j x hj
  generalize hI : prodN (as.drop (j + 1)) = I at hs
  generalize hO : prodN (as.take j) = O at hs
  have hO1 : 1 ≤ O := Nat.one_le_iff_ne_zero.mpr fun z => by rw [z, Nat.zero_mul] at hs; omega
  have hxI : x.length * I ≤ 640 := Nat.le_trans (Nat.le_mul_of_pos_left _ hO1) (by omega)
  have hxI1 : 1 ≤ x.length * I := Nat.one_le_iff_ne_zero.mpr fun z => by rw [z, Nat.mul_zero] at hs; omega
  have hx1 : 1 ≤ x.length := Nat.one_le_iff_ne_zero.mpr fun z => by rw [z, Nat.zero_mul] at hxI1; omega
  have hI2 : I ≤ 640 := Nat.le_trans (Nat.le_mul_of_pos_left _ hx1) hxI
  have hOI : O * (x.length * I) ≤ 640 := by omega
  have hO2 : O ≤ 640 := Nat.le_trans (Nat.le_mul_of_pos_right _ hxI1) hOI
  have hLim : Lim = 5000 := rfl
  show runF nFIn.length (FFIn K) [.seq true ds, iD (j : Int), .seq b ts] = _
  refine run_rt ?_
  show FFIn K [.pu (.seq true ds), .pu (iD (j : Int)), .pu (.seq b ts), .un, .un, .un] = _
  unfold FFIn
  have e1 := (sl_from (φ := atP 0) (ρ := [.pu (.seq true ds), .pu (iD (j : Int)), .pu (.seq b ts), .un, .un, .un]) (k := j + 1) (lo := partF (bin2 addD (atP 1) (kD (.leaf (.int 1))))) (ψ := slF slT (atP 0) (partF (bin2 addD (atP 1) (kD (.leaf (.int 1))))) (fun _ => some none)) rfl (part_ (by rw [bin_2 (d := iD j) (e := iD 1) rfl rfl, add_int]; rfl)))
  refine (seq_nx (asg_ (d := iD I) (by rw [app_1 e1, count_ok (H.drop (j + 1)), hI]))).trans ?_
  show seqF _ _ [.pu (.seq true ds), .pu (iD (j : Int)), .pu (.seq b ts), .pu (iD I), .un, .un] = _
  let bss : List (List Bool) := x.map fun d => List.replicate I (g (some d))
  have hflat : bss.flatten = x.flatMap fun d => List.replicate I (g (some d)) := List.flatMap_def.symm
  have hfl : bss.flatten.length = x.length * I := by rw [hflat]; exact flat_len I _ x fun d _ => List.length_replicate
  have e2 : lcF [5] (seqsK K (bin2 ixD (atP 0) (atP 1))) (setF 5) yesF (ifF (asBF (bin2 (inD false) (atP 5) (atP 2))) (bin2 mulSD (kD (.leaf (.str "1"))) (atP 3)) (bin2 mulSD (kD (.leaf (.str "0"))) (atP 3))) [.pu (.seq true ds), .pu (iD (j : Int)), .pu (.seq b ts), .pu (iD I), .un, .un] = some (bss.map bT) := by
    have hx : bin2 ixD (atP 0) (atP 1) [.pu (.seq true ds), .pu (iD (j : Int)), .pu (.seq b ts), .pu (iD I), .un, .un] = some d0 := by
      rw [bin_2 (d := .seq true ds) (e := iD j) rfl rfl]
      show atI ds (j : Nat) = _
      rw [L2.atI_nat hd0]
    rw [lc_ (ds := x) (by show (bin2 ixD (atP 0) (atP 1) _).bind _ = _; rw [hx]; exact hax.it) (by have := hax.le; omega)]
    rw [comp_map (g := fun d => bT (List.replicate I (g (some d)))) fun d hd => ?_]
    · show _ = some ((x.map _).map bT)
      rw [List.map_map]; rfl
    · refine ⟨[.pu (.seq true ds), .pu (iD (j : Int)), .pu (.seq b ts), .pu (iD I), .un, .pu d], rfl, rfl, ?_⟩
      have ht : asBF (bin2 (inD false) (atP 5) (atP 2)) [.pu (.seq true ds), .pu (iD (j : Int)), .pu (.seq b ts), .pu (iD I), .un, .pu d] = some (g (some d)) := asB_ (by rw [bin_2 (d := d) (e := .seq b ts) rfl rfl, hm d hd])
      unfold ifF
      rw [ht, ← rpt_bit]
      have m1 : ∀ c : Bool, mulSD (bT [c]) (iD (I : Int)) = some (bT (rpt I [c])) := fun c => mul_bits (by show 1 * I ≤ 1000; omega) (by show 1 ≤ 1000; omega) (by omega)
      cases g (some d) with
      | true => exact m1 true
      | false => exact m1 false
  refine (seq_nx (asg_ (maps_ e2))).trans (ret_f ?_)
  show app1 int2B _ [.pu (.seq true ds), .pu (iD (j : Int)), .pu (.seq b ts), .pu (iD I), .pu (.seq true (bss.map bT)), .un] = _
  have e3 := (sl_to (φ := atP 0) (ρ := [.pu (.seq true ds), .pu (iD (j : Int)), .pu (.seq b ts), .pu (iD I), .pu (.seq true (bss.map bT)), .un]) (k := j) (hi := partF (atP 1)) (ψ := slF slT (atP 0) (fun _ => some none) (partF (atP 1))) rfl (part_ rfl))
  have hbits : rpt O bss.flatten = (pts as).map fun p => g p[j]? := by rw [pts_at g j as x hj, hO, hI, hflat]
  have hbl : (rpt O bss.flatten).length = O * (x.length * I) := by rw [rep_len, hfl]
  rw [app_2 (d := bT (rpt O bss.flatten)) (e := iD 2) ?_ rfl, int2_ok ?_ (by rw [hbl]; exact hOI), hbits]
  · rfl
  · intro z
    rw [z] at hbl
    have : 0 = O * (x.length * I) := hbl
    omega
  · rw [bin_2 (d := bT bss.flatten) (e := iD O) ?_ (by rw [app_1 e3, count_ok (H.take j), hO]), mul_bits (by rw [hfl, Nat.mul_comm]; omega) (by rw [hfl]; omega) (by omega)]
    rw [bin_2 (d := sD "") (e := .seq true (bss.map bT)) rfl rfl, joinB (by rw [hfl]; omega)]
end L2.K1

namespace L2.K1
open PySem PySem.Spec PyProof.Rows L2.Tr
end L2.K1

namespace L2.K1
open PySem PySem.Spec PyProof.Rows L2.Tr
/-! looks, as they are told; what they find of a row with a number; the steps of a look -/
inductive Op4 where
  | and
  | or
  | less
  | xor
inductive Lk where
  | has (x : Str) (ws : List Str)
  | same (x y : Str)
  | numb (ns : List Int)
  | every
  | not (l : Lk)
  | bin (o : Op4) (l m : Lk)
def pos (ks : List Str) (x : Str) : Nat := (idxS x ks).getD 0
def nmT (x : Str) : D := .seq false [sD x]
def stepsOf (ks : List Str) : Lk → List D
  | .has x ws => [.seq false [sD "in", iD (pos ks x : Nat), .seq false (ws.map sD)]]
  | .same x y => [.seq false [sD "same", iD (pos ks x : Nat), iD (pos ks y : Nat)]]
  | .numb ns => [.seq false [sD "in", iD (ks.length : Nat), .seq false (ns.map iD)]]
  | .every => [nmT "any"]
  | .not l => stepsOf ks l ++ [nmT "not"]
  | .bin .and l m => stepsOf ks l ++ (stepsOf ks m ++ [nmT "and"])
  | .bin .or l m => stepsOf ks l ++ (stepsOf ks m ++ [nmT "or"])
  | .bin .less l m => stepsOf ks l ++ ((stepsOf ks m ++ [nmT "not"]) ++ [nmT "and"])
  | .bin .xor l m => (stepsOf ks l ++ (stepsOf ks m ++ [nmT "or"])) ++ (((stepsOf ks l ++ (stepsOf ks m ++ [nmT "and"])) ++ [nmT "not"]) ++ [nmT "and"])
def op4 : Op4 → Bool → Bool → Bool
  | .and, a, b => a && b
  | .or, a, b => a || b
  | .less, a, b => a && !b
  | .xor, a, b => xor a b
def sem (ks row : List Str) (n : Int) : Lk → Bool
  | .has x ws => decide (row.getD (pos ks x) "" ∈ ws)
  | .same x y => decide (row.getD (pos ks x) "" = row.getD (pos ks y) "")
  | .numb ns => decide (n ∈ ns)
  | .every => true
  | .not l => !sem ks row n l
  | .bin o l m => op4 o (sem ks row n l) (sem ks row n m)
namespace L2.K1
open PySem PySem.Spec PyProof.Rows L2.Tr
/-! a look that is called: axes of one thing each -/
def one1 (ds : List D) : List (List D) := ds.map fun d => [d]
end L2.K1

namespace L2.K1
open PySem PySem.Spec PyProof.Rows L2.Tr
/-! looks are made -/
section
variable {C C3 : Addr} {ps : List (Str × List Str)} {xs : List Str}
namespace L2.K1
open PySem PySem.Spec PyProof.Rows L2.Tr
/-! some of the things, drawn -/
namespace L2.K1
open PySem PySem.Spec PyProof.Rows L2.Tr
section
variable {ps : List (Str × List Str)} {xs named : List Str} {a : Addr}
namespace L2.K1
open PySem PySem.Spec PyProof.Rows L2.Tr
/-! looks that are drawn, by levels -/
def gLkN : Nat → Addr → List D → Nat → (D → Nat → Prop) → Prop
  | 0 => fun _ _ _ _ => False
  | n + 1 => fun a => fLook a (gLkN n)
def bndL : Nat → Nat
  | 0 => 11
  | d + 1 => 2 * bndL d + 3
section
variable {ps : List (Str × List Str)} {xs named : List Str} {a : Addr}
end
end L2.K1

namespace L2.K1
open PySem PySem.Spec PyProof.Rows L2.Tr
/-! the axes of two looks: what is told, what is free, the words asked of what is free -/
namespace L2.K1
open PySem PySem.Spec PyProof.Rows L2.Tr
/-! few unlike words -/
/-! points of such axes -/
def oth : List V := [.str "", .str "-"]
def nums : List V := [.int 1, .int 2, .int 3, .int 4, .int 5]
def itO (ws : List Str) : Option (List Str) → List D
  | none => (ws.map sD) ++ oth.map D.leaf
  | some vs => vs.map sD
def axO (ws : List Str) (o : Option (List Str)) : D := .seq false (itO ws o)
section
variable {K : PySem.W.Frag} {C aN aW : Addr} {ps : List (Str × List Str)} {xs named : List Str}
namespace L2.K1
open PySem PySem.Spec PyProof.Rows L2.Tr
/-! the one rising list of texts is there -/
end L2.K1

namespace L2.K1
open PySem PySem.Spec PyProof.Rows L2.Tr
section
variable {K : PySem.W.Frag} {C aN aW : Addr} {ps : List (Str × List Str)} {xs named : List Str}
namespace L2.K1
open PySem PySem.Spec PyProof.Rows L2.Tr
section
variable {K : PySem.W.Frag} {C C3 aN aW : Addr} {ps : List (Str × List Str)} {xs named : List Str}
noncomputable abbrev gAxK (K : PySem.W.Frag) (C aN aW : Addr) : List D → Option D := fAxes K C aN aW
noncomputable abbrev gBoK (K : PySem.W.Frag) (C C3 aN aW : Addr) : List D → Option D := fBoth C C3 (gAxK K C aN aW) (fEq C) (fFound K C3)
noncomputable abbrev gLEK (K : PySem.W.Frag) (C C3 aN aW : Addr) : List D → Option D := fLEq C C3 (fEq C) (fAlike (gBoK K C C3 aN aW))
end
end L2.K1

namespace L2.K1
open PySem PySem.Spec PyProof.Rows L2.Tr
/-! what is told of two looks, joined -/
abbrev bL (bs : List Bool) : D := .seq true (bs.map bD)
abbrev prD (p : Bool × Bool) : D := .seq false [bD p.1, bD p.2]
end L2.K1

namespace L2.K1
open PySem PySem.Spec PyProof.Rows L2.Tr
/-! numbers of points are equal just if the points are -/
/-! rows and points, thing by thing -/
def RowIn (named sp : List Str) : List (Option (List Str)) → List Str → List Str → Prop
  | [], _, [] => True
  | o :: os, pre, x :: r => x ∈ someOf named sp o pre ∧ RowIn named sp os (pre ++ [x]) r
  | _, _, _ => False
theorem pt_in {α : Type} {a : List α} {as : List (List α)} {p : List α} : p ∈ pts (a :: as) ↔ ∃ d ∈ a, ∃ q ∈ pts as, p = d :: q := by
  show p ∈ a.flatMap (fun d => (pts as).map (d :: ·)) ↔ _
  rw [List.mem_flatMap]
  constructor
  · rintro ⟨d, hd, h⟩
    obtain ⟨q, hq, rfl⟩ := List.mem_map.mp h
    exact ⟨d, hd, q, hq, rfl⟩
  · rintro ⟨d, hd, q, hq, rfl⟩
    exact ⟨d, hd, List.mem_map.mpr ⟨q, hq, rfl⟩⟩
end L2.K1

namespace L2.K1
open PySem PySem.Spec PyProof.Rows L2.Tr
/-! a row with a number and a point that looks cannot tell apart -/
namespace L2.K1
open PySem PySem.Spec PyProof.Rows L2.Tr
/-! for each row such a point, for each point such a row -/
/-- texts of free columns: of the row f, of the point g -/
structure Fr2 (ws f g : List Str) : Prop where
  len : g.length = f.length
  in_ : ∀ x ∈ g, x ∈ ws ∨ x = "" ∨ x = "-"
  w : ∀ j, j < f.length → ∀ w ∈ ws, (g.getD j "" = w ↔ f.getD j "" = w)
  s : ∀ i j, i < f.length → j < f.length → (g.getD i "" = g.getD j "" ↔ f.getD i "" = f.getD j "")
section
variable {ws : List Str}
theorem fr0 : Fr2 ws [] [] := ⟨rfl, fun x h => (by cases h), fun j h => absurd h (Nat.not_lt_zero _), fun i j h => absurd h (Nat.not_lt_zero _)⟩
theorem fr1 {a b : Str} (hg : b ∈ ws ∨ b = "" ∨ b = "-") (h : ∀ w ∈ ws, (b = w ↔ a = w)) : Fr2 ws [a] [b] := ⟨rfl, fun x hx => List.mem_singleton.mp hx ▸ hg, fun j hj w hw => by
  have : j = 0 := by have : [a].length = 1 := rfl; omega
  subst this
  exact h w hw, fun i j hi hj => by
  have l : [a].length = 1 := rfl
  have e1 : i = 0 := by omega
  have e2 : j = 0 := by omega
  subst e1 e2
  exact ⟨fun _ => rfl, fun _ => rfl⟩⟩
theorem fr2 {a b c d : Str} (hc : c ∈ ws ∨ c = "" ∨ c = "-") (hd : d ∈ ws ∨ d = "" ∨ d = "-") (h1 : ∀ w ∈ ws, (c = w ↔ a = w)) (h2 : ∀ w ∈ ws, (d = w ↔ b = w)) (h3 : c = d ↔ a = b) : Fr2 ws [a, b] [c, d] := ⟨rfl, fun x hx => by
  rcases List.mem_cons.mp hx with rfl | hx
  · exact hc
  · exact List.mem_singleton.mp hx ▸ hd, fun j hj w hw => by
  have l : [a, b].length = 2 := rfl
  match j, hj with
  | 0, _ => exact h1 w hw
  | 1, _ => exact h2 w hw, fun i j hi hj => by
  match i, hi, j, hj with
  | 0, _, 0, _ => exact ⟨fun _ => rfl, fun _ => rfl⟩
  | 1, _, 1, _ => exact ⟨fun _ => rfl, fun _ => rfl⟩
  | 0, _, 1, _ => exact h3
  | 1, _, 0, _ => exact ⟨fun z => (h3.mp z.symm).symm, fun z => (h3.mpr z.symm).symm⟩⟩
/-- a row's free words -/
theorem fr_fwd (n1 : ("" : Str) ∉ ws) (n2 : ("-" : Str) ∉ ws) : ∀ f : List Str, f.length ≤ 2 → ∃ g, Fr2 ws f g
  | [], _ => ⟨[], fr0⟩
  | [a], _ => by
    by_cases h : a ∈ ws
    · exact ⟨[a], fr1 (.inl h) fun _ _ => Iff.rfl⟩
    · exact ⟨[""], fr1 (.inr (.inl rfl)) fun w hw => ⟨fun z => absurd (z ▸ hw) n1, fun z => absurd (z ▸ hw) h⟩⟩
  | [a, b], _ => by
    have no : ∀ {x y : Str}, x ∉ ws → y ∉ ws → ∀ w ∈ ws, (y = w ↔ x = w) := fun hx hy w hw => ⟨fun z => absurd (z ▸ hw) hy, fun z => absurd (z ▸ hw) hx⟩
    by_cases ha : a ∈ ws
    · by_cases hb : b ∈ ws
      · exact ⟨[a, b], fr2 (.inl ha) (.inl hb) (fun _ _ => Iff.rfl) (fun _ _ => Iff.rfl) Iff.rfl⟩
      · exact ⟨[a, ""], fr2 (.inl ha) (.inr (.inl rfl)) (fun _ _ => Iff.rfl) (no hb n1) ⟨fun z => absurd (z ▸ ha) n1, fun z => absurd (z ▸ ha) hb⟩⟩
    · by_cases hb : b ∈ ws
      · exact ⟨["", b], fr2 (.inr (.inl rfl)) (.inl hb) (no ha n1) (fun _ _ => Iff.rfl) ⟨fun z => absurd (z ▸ hb) n1, fun z => absurd (z ▸ hb) ha⟩⟩
      · by_cases e : a = b
        · exact ⟨["", ""], fr2 (.inr (.inl rfl)) (.inr (.inl rfl)) (no ha n1) (no hb n1) ⟨fun _ => e, fun _ => rfl⟩⟩
        · exact ⟨["", "-"], fr2 (.inr (.inl rfl)) (.inr (.inr rfl)) (no ha n1) (no hb n2) ⟨fun z => absurd z (by decide +kernel), fun z => absurd z e⟩⟩
  | _ :: _ :: _ :: _, h => absurd h (by simp)
/-- a point's free texts -/
theorem fr_bwd {named pre st : List Str} {s0 s1 : Str} (n1 : ("" : Str) ∉ ws) (n2 : ("-" : Str) ∉ ws) (hw : ∀ w ∈ ws, w ∈ named) (h0 : s0 ∉ named) (h1 : s1 ∉ named) (h01 : s0 ≠ s1) : ∀ g : List Str, g.length ≤ 2 → (∀ x ∈ g, x ∈ ws ∨ x = "" ∨ x = "-") →
    ∃ f, Fr2 ws f g ∧ RowIn named (s0 :: s1 :: st) (g.map fun _ => none) pre f
  | [], _, _ => ⟨[], fr0, trivial⟩
  | [c], _, hg => by
    have s0in : ∀ pre : List Str, s0 ∈ someOf named (s0 :: s1 :: st) none pre := fun pre => List.mem_append_right _ (by split <;> simp)
    have win : ∀ (pre : List Str) (w : Str), w ∈ ws → w ∈ someOf named (s0 :: s1 :: st) none pre := fun pre w h => List.mem_append_left _ (hw w h)
    have s0w : s0 ∉ ws := fun z => h0 (hw _ z)
    by_cases h : c ∈ ws
    · exact ⟨[c], fr1 (.inl h) (fun _ _ => Iff.rfl), win _ c h, trivial⟩
    · exact ⟨[s0], fr1 (hg c List.mem_cons_self) (fun w hw2 => ⟨fun z => absurd (z ▸ hw2) h, fun z => absurd (z ▸ hw2) s0w⟩), s0in _, trivial⟩
  | [c, d], _, hg => by
    have s0in : ∀ pre : List Str, s0 ∈ someOf named (s0 :: s1 :: st) none pre := fun pre => List.mem_append_right _ (by split <;> simp)
    have s1in : ∀ pre : List Str, s0 ∈ pre → s1 ∈ someOf named (s0 :: s1 :: st) none pre := fun pre h => List.mem_append_right _ (by
      show s1 ∈ ite (s0 ∈ pre) _ _
      rw [if_pos h]; simp)
    have win : ∀ (pre : List Str) (w : Str), w ∈ ws → w ∈ someOf named (s0 :: s1 :: st) none pre := fun pre w h => List.mem_append_left _ (hw w h)
    have s0w : s0 ∉ ws := fun z => h0 (hw _ z)
    have s1w : s1 ∉ ws := fun z => h1 (hw _ z)
    have no : ∀ {x y : Str}, x ∉ ws → y ∉ ws → ∀ w ∈ ws, (y = w ↔ x = w) := fun hx hy w hw => ⟨fun z => absurd (z ▸ hw) hy, fun z => absurd (z ▸ hw) hx⟩
    have gc := hg c List.mem_cons_self
    have gd := hg d (List.mem_cons_of_mem _ List.mem_cons_self)
    by_cases hc : c ∈ ws
    · by_cases hd : d ∈ ws
      · exact ⟨[c, d], fr2 gc gd (fun _ _ => Iff.rfl) (fun _ _ => Iff.rfl) Iff.rfl, win _ c hc, win _ d hd, trivial⟩
      · exact ⟨[c, s0], fr2 gc gd (fun _ _ => Iff.rfl) (no s0w hd) ⟨fun z => absurd (z ▸ hc) hd, fun z => absurd (z ▸ hc) s0w⟩, win _ c hc, s0in _, trivial⟩
    · by_cases hd : d ∈ ws
      · exact ⟨[s0, d], fr2 gc gd (no s0w hc) (fun _ _ => Iff.rfl) ⟨fun z => absurd (z ▸ hd) hc, fun z => absurd (z ▸ hd) s0w⟩, s0in _, win _ d hd, trivial⟩
      · by_cases e : c = d
        · exact ⟨[s0, s0], fr2 gc gd (no s0w hc) (no s0w hd) ⟨fun _ => rfl, fun _ => e⟩, s0in _, s0in _, trivial⟩
        · exact ⟨[s0, s1], fr2 gc gd (no s0w hc) (no s1w hd) ⟨fun z => absurd z e, fun z => absurd z h01⟩, s0in _, s1in _ (by simp), trivial⟩
  | _ :: _ :: _ :: _, h, _ => absurd h (by simp)
end
/-! told columns ahead -/
theorem row_told {named sp : List Str} {os : List (Option (List Str))} : ∀ (ps : List (Str × List Str)) (pre r : List Str), RowIn named sp ((ps.map fun p => some p.2) ++ os) pre r ↔ ∃ t f, r = t ++ f ∧ Paired (fun (p : Str × List Str) x => x ∈ p.2) ps t ∧ RowIn named sp os (pre ++ t) f
  | [], pre, r => by
    constructor
    · intro h; exact ⟨[], r, rfl, .nil, by rw [List.append_nil]; exact h⟩
    · rintro ⟨t, f, rfl, h, k⟩
      cases h
      rw [List.append_nil] at k
      exact k
  | p :: ps, pre, r => by
    constructor
    · intro h
      cases r with
      | nil => exact h.elim
      | cons x r =>
        obtain ⟨t, f, rfl, h2, h3⟩ := (row_told ps (pre ++ [x]) r).mp h.2
        exact ⟨x :: t, f, rfl, .cons h.1 h2, by rw [List.append_assoc] at h3; exact h3⟩
    · rintro ⟨t, f, rfl, h, k⟩
      cases h with
      | cons hx ht => exact ⟨hx, (row_told ps _ _).mpr ⟨_, f, rfl, ht, by rw [List.append_assoc]; exact k⟩⟩
theorem pt_told {ws : List Str} {as : List (List D)} : ∀ (ps : List (Str × List Str)) (p : List D), p ∈ pts ((ps.map fun p => itO ws (some p.2)) ++ as) ↔ ∃ (t : List Str) (u : List D), p = t.map sD ++ u ∧ Paired (fun (p : Str × List Str) x => x ∈ p.2) ps t ∧ u ∈ pts as
  | [], p => by
    constructor
    · intro h; exact ⟨[], p, rfl, .nil, h⟩
    · rintro ⟨t, f, rfl, h, k⟩
      cases h
      exact k
  | q :: ps, p => by
    show p ∈ pts (itO ws (some q.2) :: ((ps.map fun p => itO ws (some p.2)) ++ as)) ↔ _
    rw [pt_in]
    constructor
    · rintro ⟨d, hd, p2, hp, rfl⟩
      obtain ⟨x, hx, rfl⟩ := List.mem_map.mp hd
      obtain ⟨t, u, rfl, h2, h3⟩ := (pt_told ps p2).mp hp
      exact ⟨x :: t, u, rfl, .cons hx h2, h3⟩
    · rintro ⟨t, u, rfl, h, k⟩
      cases h with
      | @cons _ x _ t hx ht => exact ⟨sD x, List.mem_map.mpr ⟨x, hx, rfl⟩, t.map sD ++ u, (pt_told ps _).mpr ⟨t, u, rfl, ht, k⟩, rfl⟩
theorem pt_free {ws : List Str} {as : List (List D)} : ∀ (xs : List Str) (p : List D), p ∈ pts ((xs.map fun _ => itO ws none) ++ as) ↔ ∃ (g : List Str) (u : List D), p = g.map sD ++ u ∧ g.length = xs.length ∧ (∀ x ∈ g, x ∈ ws ∨ x = "" ∨ x = "-") ∧ u ∈ pts as
  | [], p => by
    constructor
    · intro h; exact ⟨[], p, rfl, rfl, (fun x h => by cases h), h⟩
    · rintro ⟨g, u, rfl, h, _, k⟩
      rw [List.eq_nil_of_length_eq_zero h]
      exact k
  | q :: xs, p => by
    show p ∈ pts (itO ws none :: ((xs.map fun _ => itO ws none) ++ as)) ↔ _
    rw [pt_in]
    have it : ∀ d : D, d ∈ itO ws none ↔ ∃ x, d = sD x ∧ (x ∈ ws ∨ x = "" ∨ x = "-") := fun d => by
      show d ∈ (ws.map sD) ++ oth.map D.leaf ↔ _
      rw [List.mem_append]
      constructor
      · rintro (h | h)
        · obtain ⟨x, hx, rfl⟩ := List.mem_map.mp h
          exact ⟨x, rfl, .inl hx⟩
        · simp only [oth, List.map_cons, List.map_nil, List.mem_cons, List.not_mem_nil, or_false] at h
          rcases h with h | h
          · exact ⟨"", h, .inr (.inl rfl)⟩
          · exact ⟨"-", h, .inr (.inr rfl)⟩
      · rintro ⟨x, rfl, h | rfl | rfl⟩
        · exact .inl (List.mem_map.mpr ⟨x, h, rfl⟩)
        · exact .inr (by simp [oth])
        · exact .inr (by simp [oth])
    constructor
    · rintro ⟨d, hd, p2, hp, rfl⟩
      obtain ⟨x, rfl, hx⟩ := (it d).mp hd
      obtain ⟨g, u, rfl, h2, h3, h4⟩ := (pt_free xs p2).mp hp
      refine ⟨x :: g, u, rfl, by rw [List.length_cons, List.length_cons, h2], fun y hy => ?_, h4⟩
      rcases List.mem_cons.mp hy with rfl | hy
      · exact hx
      · exact h3 y hy
    · rintro ⟨g, u, rfl, h2, h3, h4⟩
      cases g with
      | nil => cases h2
      | cons x g => exact ⟨sD x, (it _).mpr ⟨x, rfl, h3 x List.mem_cons_self⟩, g.map sD ++ u, (pt_free xs _).mpr ⟨g, u, rfl, by simpa using h2, fun y hy => h3 y (List.mem_cons_of_mem _ hy), h4⟩, rfl⟩
end L2.K1

namespace L2.K1
open PySem PySem.Spec PyProof.Rows L2.Tr
/-! the law's rows and numbers, and the points of the axes -/
def n5 : List Int := [1, 2, 3, 4, 5]
section
variable {ps : List (Str × List Str)} {xs named ws : List Str}
namespace L2.K1
open PySem PySem.Spec PyProof.Rows L2.Tr
/-! comparisons of looks over one world -/
structure Wd (ps : List (Str × List Str)) (xs named : List Str) (s0 s1 : Str) (st : List Str) : Prop where
  c : Cols ps xs
  n : named.length = 2
  nd : named.Nodup
  nw : ∀ x ∈ named, isW x = true
  S : Sp2 named s0 s1
  sp : spareL ps xs named = s0 :: s1 :: st
def prsOf (ks : List Str) (rs : List (List Str)) (l m : Lk) : List (Bool × Bool) := rs.flatMap fun r => n5.map fun n => (sem ks r n l, sem ks r n m)
namespace L2.K1
open PySem PySem.Spec PyProof.Rows L2.Tr
/-! what the law says that a look holds of -/
def fHo : Nat → List D → Option D
  | 0 => fun _ => none
  | n + 1 => fHolds (fHo n)
section
variable {ps : List (Str × List Str)} {xs named row : List Str} {k : Int}
end
/-! a list is the same as itself, where its things are -/
def smN : Nat → List D → Option D
  | 0 => fun _ => none
  | n + 1 => fSame (smN n)
/-! what is told of a look: what the law holds of it, row by row, number by number -/
def toldL (ks : List Str) (rs : List (List Str)) (l : Lk) : List Bool := rs.flatMap fun r => n5.map fun n => sem ks r n l
theorem told_len (ks : List Str) (l : Lk) : ∀ rs : List (List Str), (toldL ks rs l).length = 5 * rs.length
  | [] => rfl
  | r :: rs => by
    have := told_len ks l rs
    unfold toldL at this ⊢
    rw [List.flatMap_cons, List.length_append, this, List.length_cons]
    show 5 + _ = _
    omega
section
variable {ps : List (Str × List Str)} {xs named : List Str} {l : Lk}
def FdB : L2.Tr.Env → Option Out := (growF 2 (extArg (mapS (lcF [4] (seqsF (mapS (lstDisp (consD (kD (.leaf (.int 1))) (consD (kD (.leaf (.int 2))) (consD (kD (.leaf (.int 3))) (consD (kD (.leaf (.int 4))) (consD (kD (.leaf (.int 5))) nilD)))))))) (setF 4) yesF (app1 (fHo 4) (consD (atP 0) (consD (atP 1) (consD (atP 3) (consD (atP 4) nilD)))))))) fun xs ds => xs ++ ds)
abbrev fdE (ps : List (Str × List Str)) (xs named : List Str) (l : Lk) (o : List D) (s3 s4 : Sl) : L2.Tr.Env := [.pu (wD ps xs named), .pu (lkD l), .ow (.seq true o), s3, s4]
theorem prs_fst {ks : List Str} {l m : Lk} (rs : List (List Str)) : (prsOf ks rs l m).map (·.1) = toldL ks rs l := by
  unfold prsOf toldL
  rw [List.map_flatMap]; rfl
end
end L2.K1

namespace L2.K1
open PySem PySem.Spec PyProof.Rows L2.Tr
noncomputable section
variable {P : Program} {w : World} {K : PySem.W.Frag} {mg : Str → Option Value} {base : Heap}
abbrev sMade : Stmt := top 75
abbrev nMade : List Str := ["_law_columns_here", "_law_s", "_law_guard", "_law_look_here", "_law_some_here", "_law_change_here"]
theorem scMade : FnScope nMade ["_law_columns_here", "_law_s"] (defScope sMade) := ⟨rfl, rfl, rfl, by decide +kernel, rfl, by decide +kernel, by decide +kernel⟩
def FMade (CP CD CH : Addr) (gP gD gC : List D → Option (List Str × List D)) (gLo : List D → Option D) : L2.Tr.Env → Option Out := (seqF (asgF (ifF (asBF (bin2 (isN false) (bin2 dgD (atP 1) (kD (.leaf (.str "when")))) (kD (.leaf .non)))) (kD (.leaf .non)) (tupDisp (consD (bin2 ixD (bin2 dgD (atP 1) (kD (.leaf (.str "when")))) (kD (.leaf (.int 0)))) (consD (app1 gLo (consD (atP 0) (consD (bin2 ixD (bin2 dgD (atP 1) (kD (.leaf (.str "when")))) (kD (.leaf (.int 1)))) nilD))) nilD)))) (setF 2)) (seqF (ifS (asBF (bin2 (scD false) (bin2 dgD (atP 1) (kD (.leaf (.str "kind")))) (kD (.leaf (.str "put"))))) (retF (app1 (mkD CP gP) (kwF 2 2 (consD (atP 0) (consD (mapS (app1 lstA (consD (bin2 dgD (atP 1) (kD (.leaf (.str "cells")))) nilD))) nilD)) (consD (atP 2) (consD (bin2 dgD (atP 1) (kD (.leaf (.str "how")))) nilD))))) skipF) (seqF (asgF (app1 gLo (consD (atP 0) (consD (bin2 dgD (atP 1) (kD (.leaf (.str "look")))) nilD))) (setF 3)) (seqF (ifS (asBF (bin2 (scD false) (bin2 dgD (atP 1) (kD (.leaf (.str "kind")))) (kD (.leaf (.str "drop"))))) (retF (app1 (mkD CD gD) (kwF 1 5 (consD (atP 3) nilD) (consD (bin2 dgD (atP 1) (kD (.leaf (.str "many")))) (consD (bin2 dgD (atP 1) (kD (.leaf (.str "by")))) (consD (atP 2) (consD (bin2 dgD (atP 1) (kD (.leaf (.str "must")))) (consD (bin2 dgD (atP 1) (kD (.leaf (.str "how")))) nilD)))))))) skipF) (seqF (asgF (mapS (lcF [5] (seqsF (bin2 dgD (atP 1) (kD (.leaf (.str "changes"))))) (setF 5) yesF (app1 dctP (consD (atP 5) nilD)))) (setF 4)) (seqF (asgF (ifF (asBF (bin2 (isN false) (bin2 dgD (atP 1) (kD (.leaf (.str "many")))) (kD (.leaf .non)))) (bin2 ixD (atP 4) (kD (.leaf (.int 0)))) (atP 4)) (setF 4)) (retF (app1 (mkD CH gC) (kwF 2 4 (consD (atP 3) (consD (atP 4) nilD)) (consD (bin2 dgD (atP 1) (kD (.leaf (.str "by")))) (consD (atP 2) (consD (bin2 dgD (atP 1) (kD (.leaf (.str "must")))) (consD (bin2 dgD (atP 1) (kD (.leaf (.str "how")))) nilD)))))))))))))
def fMade (CP CD CH : Addr) (gP gD gC : List D → Option (List Str × List D)) (gLo : List D → Option D) (ds : List D) : Option D := if ds.length = (["_law_columns_here", "_law_s"] : List Str).length then runF nMade.length (FMade CP CD CH gP gD gC gLo ) ds else none
theorem okMade {f : Addr} {fd : FuncData} (CP CD CH : Addr) (gP gD gC : List D → Option (List Str × List D)) (gLo : List D → Option D) (F : Fun K "_law_made" "_law_made" sMade f fd) (B : TxB2 mg) (mkP : MkrK P w K mg base "Put" CP 6 2 ["when", "how"] gP) (mkD : MkrK P w K mg base "Drop" CD 6 1 ["most", "by", "when", "must", "how"] gD) (mkC : MkrK P w K mg base "Change" CH 6 2 ["by", "when", "must", "how"] gC) (hLo : Fn P w K mg base "_law_look_of" 10 2 gLo) : FnOk P w K mg base CX0 11 f fd ["_law_columns_here", "_law_s"] (spP (fMade CP CD CH gP gD gC gLo )) :=
  ok_def (N := nMade) (Φ := FMade CP CD CH gP gD gC gLo ) F scMade fun cdv A outer s H E hr => ⟨_, (ss_cons (sd_nm (pu_if (te_cmp op_isN r2_isN (nomark _) (PuD.vi (pu_dg (hu_of hr) (PuD.vi (pu_var (pv 1))) (PuD.vi (pu_c pe_str (by decide +kernel))) (fun _ _ => rfl))) (PuD.vi (pu_c pe_non rfl))) (pu_c pe_non rfl) (pu_tup (ar_cons (pu_ix (PuD.vi (pu_dg (hu_of hr) (PuD.vi (pu_var (pv 1))) (PuD.vi (pu_c pe_str (by decide +kernel))) (fun _ _ => rfl))) (PuD.vi (pu_c pe_int rfl)) (fun _ _ => rfl)) (ar_cons (pu_call hLo (hr.mono (by first | decide | omega)) (by rfl) (ar_cons (pu_var (pv 0)) (ar_cons (pu_ix (PuD.vi (pu_dg (hu_of hr) (PuD.vi (pu_var (pv 1))) (PuD.vi (pu_c pe_str (by decide +kernel))) (fun _ _ => rfl))) (PuD.vi (pu_c pe_int rfl)) (fun _ _ => rfl)) ar_nil))) ar_nil)))) (fun h => ps_set (i := 2) scMade.nd rfl (by first | exact Or.inl rfl | exact Or.inr rfl) h)) (ss_cons (sd_if (te_cmp op_eq r2_eqS (nomark _) (PuD.vi (pu_dg (hu_of hr) (PuD.vi (pu_var (pv 1))) (PuD.vi (pu_c pe_str (by decide +kernel))) (fun _ _ => rfl))) (PuD.vi (pu_c pe_str (by decide +kernel)))) (ss_one (sd_ret (pu_makeK (n := 2) (ks := ["when", "how"]) mkP (hr.mono (by first | decide | omega)) (by rfl) (ar_cons (pu_var (pv 0)) (ar_cons (OwD.pu (ow_cty (CallR.or call_list_of (call_list_dK rfl)) (R1O.or r1_lst r1_lstK) (by rfl) B.z_list (by decide +kernel) (av_cons (PuD.vi (pu_dg (hu_of hr) (PuD.vi (pu_var (pv 1))) (PuD.vi (pu_c pe_str (by decide +kernel))) (fun _ _ => rfl))) av_nil))) ar_nil)) (pk_consD (pu_var (pv 2)) (pk_consD (pu_dg (hu_of hr) (PuD.vi (pu_var (pv 1))) (PuD.vi (pu_c pe_str (by decide +kernel))) (fun _ _ => rfl)) pk_nilD))))) ss_nil) (ss_cons (sd_nm (pu_call hLo (hr.mono (by first | decide | omega)) (by rfl) (ar_cons (pu_var (pv 0)) (ar_cons (pu_dg (hu_of hr) (PuD.vi (pu_var (pv 1))) (PuD.vi (pu_c pe_str (by decide +kernel))) (fun _ _ => rfl)) ar_nil))) (fun h => ps_set (i := 3) scMade.nd rfl (by first | exact Or.inl rfl | exact Or.inr rfl) h)) (ss_cons (sd_if (te_cmp op_eq r2_eqS (nomark _) (PuD.vi (pu_dg (hu_of hr) (PuD.vi (pu_var (pv 1))) (PuD.vi (pu_c pe_str (by decide +kernel))) (fun _ _ => rfl))) (PuD.vi (pu_c pe_str (by decide +kernel)))) (ss_one (sd_ret (pu_makeK (n := 1) (ks := ["most", "by", "when", "must", "how"]) mkD (hr.mono (by first | decide | omega)) (by rfl) (ar_cons (pu_var (pv 3)) ar_nil) (pk_consD (pu_dg (hu_of hr) (PuD.vi (pu_var (pv 1))) (PuD.vi (pu_c pe_str (by decide +kernel))) (fun _ _ => rfl)) (pk_consD (pu_dg (hu_of hr) (PuD.vi (pu_var (pv 1))) (PuD.vi (pu_c pe_str (by decide +kernel))) (fun _ _ => rfl)) (pk_consD (pu_var (pv 2)) (pk_consD (pu_dg (hu_of hr) (PuD.vi (pu_var (pv 1))) (PuD.vi (pu_c pe_str (by decide +kernel))) (fun _ _ => rfl)) (pk_consD (pu_dg (hu_of hr) (PuD.vi (pu_var (pv 1))) (PuD.vi (pu_c pe_str (by decide +kernel))) (fun _ _ => rfl)) pk_nilD)))))))) ss_nil) (ss_cons (sd_set (OwD.pu (LcD.ow (lc0 [("_law_change_here", 5)] (it_seq (pu_dg (hu_of hr) (PuD.vi (pu_var (pv 1))) (PuD.vi (pu_c pe_str (by decide +kernel))) (fun _ _ => rfl))) (blkOk_by (N := nMade) (sc := defScope sMade) (by decide +kernel)) (fun _ _ _ _ _ => (tg_name (pg_name (i := 5) scMade.nd rfl (Or.inl rfl)))) (fun _ _ _ _ _ => (tw_name (by decide))) (fun _ _ _ _ _ => (pu_cty (call_dictP rfl) r1_dctP (by rfl) B.z_dict (by decide +kernel) (av_cons (PuD.vi (pu_var (pv 5))) av_nil)))) rfl scMade.nd)) (LcD.set (i := 4) (lc0 [("_law_change_here", 5)] (it_seq (pu_dg (hu_of hr) (PuD.vi (pu_var (pv 1))) (PuD.vi (pu_c pe_str (by decide +kernel))) (fun _ _ => rfl))) (blkOk_by (N := nMade) (sc := defScope sMade) (by decide +kernel)) (fun _ _ _ _ _ => (tg_name (pg_name (i := 5) scMade.nd rfl (Or.inl rfl)))) (fun _ _ _ _ _ => (tw_name (by decide))) (fun _ _ _ _ _ => (pu_cty (call_dictP rfl) r1_dctP (by rfl) B.z_dict (by decide +kernel) (av_cons (PuD.vi (pu_var (pv 5))) av_nil)))) rfl scMade.nd rfl rfl (sw_true rfl rfl rfl (by decide +kernel)))) (ss_cons (sd_nm (pu_if (te_cmp op_isN r2_isN (nomark _) (PuD.vi (pu_dg (hu_of hr) (PuD.vi (pu_var (pv 1))) (PuD.vi (pu_c pe_str (by decide +kernel))) (fun _ _ => rfl))) (PuD.vi (pu_c pe_non rfl))) (pu_ix (PuD.vi (pu_var (pv 4))) (PuD.vi (pu_c pe_int rfl)) (fun _ _ => rfl)) (pu_var (pv 4))) (fun h => ps_set (i := 4) scMade.nd rfl (by first | exact Or.inl rfl | exact Or.inr rfl) h)) (ss_one (sd_ret (pu_makeK (n := 2) (ks := ["by", "when", "must", "how"]) mkC (hr.mono (by first | decide | omega)) (by rfl) (ar_cons (pu_var (pv 3)) (ar_cons (pu_var (pv 4)) ar_nil)) (pk_consD (pu_dg (hu_of hr) (PuD.vi (pu_var (pv 1))) (PuD.vi (pu_c pe_str (by decide +kernel))) (fun _ _ => rfl)) (pk_consD (pu_var (pv 2)) (pk_consD (pu_dg (hu_of hr) (PuD.vi (pu_var (pv 1))) (PuD.vi (pu_c pe_str (by decide +kernel))) (fun _ _ => rfl)) (pk_consD (pu_dg (hu_of hr) (PuD.vi (pu_var (pv 1))) (PuD.vi (pu_c pe_str (by decide +kernel))) (fun _ _ => rfl)) pk_nilD)))))))))))))⟩
abbrev sLike : Stmt := top 79
abbrev nLike : List Str := ["_law_w", "_law_one", "_law_other", "_law_part", "_law_change_here", "_law_finds", "_law_s"]
theorem scLike : FnScope nLike ["_law_w", "_law_one", "_law_other"] (defScope sLike) := ⟨rfl, rfl, rfl, by decide +kernel, rfl, by decide +kernel, by decide +kernel⟩
def FLike (gFi : List D → Option D) : L2.Tr.Env → Option Out := (seqF (forF (seqsF (mapS (lstDisp (consD (kD (.leaf (.str "kind"))) (consD (kD (.leaf (.str "many"))) (consD (kD (.leaf (.str "by"))) (consD (kD (.leaf (.str "must"))) (consD (kD (.leaf (.str "how"))) (consD (kD (.leaf (.str "cells"))) nilD))))))))) (setF 3) (ifS (asBF (bin2 (eqP true) (bin2 dgD (atP 1) (atP 3)) (bin2 dgD (atP 2) (atP 3)))) (retF (kD (.leaf (.bl false)))) skipF)) (seqF (ifS (asBF (bin2 (cmpMix true (qL (gdq qD))) (mapS (lcF [4] (seqsF (bin2 dgD (atP 1) (kD (.leaf (.str "changes"))))) (setF 4) yesF (app1 dctP (consD (atP 4) nilD)))) (mapS (lcF [4] (seqsF (bin2 dgD (atP 2) (kD (.leaf (.str "changes"))))) (setF 4) yesF (app1 dctP (consD (atP 4) nilD)))))) (retF (kD (.leaf (.bl false)))) skipF) (seqF (ifS (andB (asBF (bin2 (scD true) (bin2 dgD (atP 1) (kD (.leaf (.str "kind")))) (kD (.leaf (.str "put"))))) (asBF (bin2 (eqP true) (app1 gFi (consD (atP 0) (consD (bin2 dgD (atP 1) (kD (.leaf (.str "look")))) nilD))) (app1 gFi (consD (atP 0) (consD (bin2 dgD (atP 2) (kD (.leaf (.str "look")))) nilD)))))) (retF (kD (.leaf (.bl false)))) skipF) (seqF (ifS (orB (asBF (bin2 (isN false) (bin2 dgD (atP 1) (kD (.leaf (.str "when")))) (kD (.leaf .non)))) (asBF (bin2 (isN false) (bin2 dgD (atP 2) (kD (.leaf (.str "when")))) (kD (.leaf .non))))) (retF (andF (bin2 (isN false) (bin2 dgD (atP 1) (kD (.leaf (.str "when")))) (kD (.leaf .non))) (bin2 (isN false) (bin2 dgD (atP 2) (kD (.leaf (.str "when")))) (kD (.leaf .non))))) skipF) (seqF (asgF (mapS (lcF [6] (seqsF (tupDisp (consD (atP 1) (consD (atP 2) nilD)))) (setF 6) yesF (app1 gFi (consD (atP 0) (consD (bin2 ixD (bin2 dgD (atP 6) (kD (.leaf (.str "when")))) (kD (.leaf (.int 1)))) nilD))))) (setF 5)) (retF (andF (bin2 (scD false) (bin2 ixD (bin2 dgD (atP 1) (kD (.leaf (.str "when")))) (kD (.leaf (.int 0)))) (bin2 ixD (bin2 dgD (atP 2) (kD (.leaf (.str "when")))) (kD (.leaf (.int 0))))) (bin2 (eqP false) (bin2 ixD (atP 5) (kD (.leaf (.int 0)))) (bin2 ixD (atP 5) (kD (.leaf (.int 1))))))))))))
def fLike (gFi : List D → Option D) (ds : List D) : Option D := if ds.length = (["_law_w", "_law_one", "_law_other"] : List Str).length then runF nLike.length (FLike gFi ) ds else none
theorem okLike {f : Addr} {fd : FuncData} (gFi : List D → Option D) (F : Fun K "_law_is_like" "_law_is_like" sLike f fd) (B : TxB2 mg) (hFi : Fn P w K mg base "_law_look_finds" 5 2 gFi) : FnOk P w K mg base CX0 6 f fd ["_law_w", "_law_one", "_law_other"] (spP (fLike gFi )) :=
  ok_def (N := nLike) (Φ := FLike gFi ) F scLike fun cdv A outer s H E hr => ⟨_, (ss_cons (sd_for PassesOwn.never rfl (it_seq (OwD.pu (ow_lst (ar_cons (pu_c pe_str (by decide +kernel)) (ar_cons (pu_c pe_str (by decide +kernel)) (ar_cons (pu_c pe_str (by decide +kernel)) (ar_cons (pu_c pe_str (by decide +kernel)) (ar_cons (pu_c pe_str (by decide +kernel)) (ar_cons (pu_c pe_str (by decide +kernel)) ar_nil))))))))) (tg_name (pg_name (i := 3) scLike.nd rfl (by first | exact Or.inl rfl | exact Or.inr rfl))) (ss_one (sd_if (te_cmp (op_neD (hr.units)) r2_neD (nomark _) (PuD.vi (pu_dg (hu_of hr) (PuD.vi (pu_var (pv 1))) (PuD.vi (pu_var (pv 3))) (fun _ _ => rfl))) (PuD.vi (pu_dg (hu_of hr) (PuD.vi (pu_var (pv 2))) (PuD.vi (pu_var (pv 3))) (fun _ _ => rfl)))) (ss_one (sd_ret (pu_c pe_bl rfl))) ss_nil))) (ss_cons (sd_if (te_cmp (op_cmpMix (neg := true) (rcN_lst rcS_dct.eqS) (hr.mono (by first | decide | omega))) r2_cmpMix (nomark _) (PuD.vi (OwD.pu (LcD.ow (lc0 [("_law_change_here", 4)] (it_seq (pu_dg (hu_of hr) (PuD.vi (pu_var (pv 1))) (PuD.vi (pu_c pe_str (by decide +kernel))) (fun _ _ => rfl))) (blkOk_by (N := nLike) (sc := defScope sLike) (by decide +kernel)) (fun _ _ _ _ _ => (tg_name (pg_name (i := 4) scLike.nd rfl (Or.inl rfl)))) (fun _ _ _ _ _ => (tw_name (by decide))) (fun _ _ _ _ _ => (pu_cty (call_dictP rfl) r1_dctP (by rfl) B.z_dict (by decide +kernel) (av_cons (PuD.vi (pu_var (pv 4))) av_nil)))) rfl scLike.nd))) (PuD.vi (OwD.pu (LcD.ow (lc0 [("_law_change_here", 4)] (it_seq (pu_dg (hu_of hr) (PuD.vi (pu_var (pv 2))) (PuD.vi (pu_c pe_str (by decide +kernel))) (fun _ _ => rfl))) (blkOk_by (N := nLike) (sc := defScope sLike) (by decide +kernel)) (fun _ _ _ _ _ => (tg_name (pg_name (i := 4) scLike.nd rfl (Or.inl rfl)))) (fun _ _ _ _ _ => (tw_name (by decide))) (fun _ _ _ _ _ => (pu_cty (call_dictP rfl) r1_dctP (by rfl) B.z_dict (by decide +kernel) (av_cons (PuD.vi (pu_var (pv 4))) av_nil)))) rfl scLike.nd)))) (ss_one (sd_ret (pu_c pe_bl rfl))) ss_nil) (ss_cons (sd_if (TwD.te (tw_and (te_cmp op_ne r2_neS (nomark _) (PuD.vi (pu_dg (hu_of hr) (PuD.vi (pu_var (pv 1))) (PuD.vi (pu_c pe_str (by decide +kernel))) (fun _ _ => rfl))) (PuD.vi (pu_c pe_str (by decide +kernel)))) (tw_and1 (te_cmp (op_neD (hr.units)) r2_neD (nomark _) (PuD.vi (pu_call hFi (hr.mono (by first | decide | omega)) (by rfl) (ar_cons (pu_var (pv 0)) (ar_cons (pu_dg (hu_of hr) (PuD.vi (pu_var (pv 1))) (PuD.vi (pu_c pe_str (by decide +kernel))) (fun _ _ => rfl)) ar_nil)))) (PuD.vi (pu_call hFi (hr.mono (by first | decide | omega)) (by rfl) (ar_cons (pu_var (pv 0)) (ar_cons (pu_dg (hu_of hr) (PuD.vi (pu_var (pv 2))) (PuD.vi (pu_c pe_str (by decide +kernel))) (fun _ _ => rfl)) ar_nil)))))))) (ss_one (sd_ret (pu_c pe_bl rfl))) ss_nil) (ss_cons (sd_if (TwD.te (tw_or (te_cmp op_isN r2_isN (nomark _) (PuD.vi (pu_dg (hu_of hr) (PuD.vi (pu_var (pv 1))) (PuD.vi (pu_c pe_str (by decide +kernel))) (fun _ _ => rfl))) (PuD.vi (pu_c pe_non rfl))) (tw_or1 (te_cmp op_isN r2_isN (nomark _) (PuD.vi (pu_dg (hu_of hr) (PuD.vi (pu_var (pv 2))) (PuD.vi (pu_c pe_str (by decide +kernel))) (fun _ _ => rfl))) (PuD.vi (pu_c pe_non rfl)))))) (ss_one (sd_ret (pu_andT (pu_cmp op_isN r2_isN (nomark _) (PuD.vi (pu_dg (hu_of hr) (PuD.vi (pu_var (pv 1))) (PuD.vi (pu_c pe_str (by decide +kernel))) (fun _ _ => rfl))) (PuD.vi (pu_c pe_non rfl))) (pu_one (pu_cmp op_isN r2_isN (nomark _) (PuD.vi (pu_dg (hu_of hr) (PuD.vi (pu_var (pv 2))) (PuD.vi (pu_c pe_str (by decide +kernel))) (fun _ _ => rfl))) (PuD.vi (pu_c pe_non rfl))))))) ss_nil) (ss_cons (sd_set (OwD.pu (LcD.ow (lc0 [("_law_s", 6)] (it_seq (pu_tup (ar_cons (pu_var (pv 1)) (ar_cons (pu_var (pv 2)) ar_nil)))) (blkOk_by (N := nLike) (sc := defScope sLike) (by decide +kernel)) (fun _ _ _ _ _ => (tg_name (pg_name (i := 6) scLike.nd rfl (Or.inl rfl)))) (fun _ _ _ _ _ => (tw_name (by decide))) (fun _ _ _ _ _ => (pu_call hFi (hr.mono (by first | decide | omega)) (by rfl) (ar_cons (pu_var (pv 0)) (ar_cons (pu_ix (PuD.vi (pu_dg (hu_of hr) (PuD.vi (pu_var (pv 6))) (PuD.vi (pu_c pe_str (by decide +kernel))) (fun _ _ => rfl))) (PuD.vi (pu_c pe_int rfl)) (fun _ _ => rfl)) ar_nil))))) rfl scLike.nd)) (LcD.set (i := 5) (lc0 [("_law_s", 6)] (it_seq (pu_tup (ar_cons (pu_var (pv 1)) (ar_cons (pu_var (pv 2)) ar_nil)))) (blkOk_by (N := nLike) (sc := defScope sLike) (by decide +kernel)) (fun _ _ _ _ _ => (tg_name (pg_name (i := 6) scLike.nd rfl (Or.inl rfl)))) (fun _ _ _ _ _ => (tw_name (by decide))) (fun _ _ _ _ _ => (pu_call hFi (hr.mono (by first | decide | omega)) (by rfl) (ar_cons (pu_var (pv 0)) (ar_cons (pu_ix (PuD.vi (pu_dg (hu_of hr) (PuD.vi (pu_var (pv 6))) (PuD.vi (pu_c pe_str (by decide +kernel))) (fun _ _ => rfl))) (PuD.vi (pu_c pe_int rfl)) (fun _ _ => rfl)) ar_nil))))) rfl scLike.nd rfl rfl (sw_true rfl rfl rfl (by decide +kernel)))) (ss_one (sd_ret (pu_andT (pu_cmp op_eq r2_eqS (nomark _) (PuD.vi (pu_ix (PuD.vi (pu_dg (hu_of hr) (PuD.vi (pu_var (pv 1))) (PuD.vi (pu_c pe_str (by decide +kernel))) (fun _ _ => rfl))) (PuD.vi (pu_c pe_int rfl)) (fun _ _ => rfl))) (PuD.vi (pu_ix (PuD.vi (pu_dg (hu_of hr) (PuD.vi (pu_var (pv 2))) (PuD.vi (pu_c pe_str (by decide +kernel))) (fun _ _ => rfl))) (PuD.vi (pu_c pe_int rfl)) (fun _ _ => rfl)))) (pu_one (pu_cmp (op_eqD (hr.units)) r2_eqD (nomark _) (PuD.vi (pu_ix (PuD.vi (pu_var (pv 5))) (PuD.vi (pu_c pe_int rfl)) (fun _ _ => rfl))) (PuD.vi (pu_ix (PuD.vi (pu_var (pv 5))) (PuD.vi (pu_c pe_int rfl)) (fun _ _ => rfl)))))))))))))⟩
abbrev sWith : Stmt := top 80
abbrev nWith : List Str := ["_law_s", "_law_part", "_law_thing", "_law_found"]
theorem scWith : FnScope nWith ["_law_s", "_law_part", "_law_thing"] (defScope sWith) := ⟨rfl, rfl, rfl, by decide +kernel, rfl, by decide +kernel, by decide +kernel⟩
def FWith (a : Addr) : WF Nat D := (tailW (setW 3 (svO (lf (app1 dctD (consD (atP 0) nilD))))) (tailW (dputW 3 (lf (atP 1)) (lf (atP 2))) (ownW 3)))
def fWith (a : Addr) : List D → Nat → (D → Nat → Prop) → Prop := fun ds s R => ds.length = (["_law_s", "_law_part", "_law_thing"] : List Str).length ∧ FWith a (env0 nWith.length ds) s R
theorem okWith {f : Addr} {fd : FuncData} (F : Fun K "_law_with_part" "_law_with_part" sWith f fd) (B : TxB2 mg) : FnOk P w K mg base CX0 1 f fd ["_law_s", "_law_part", "_law_thing"] (spSO fun a => fWith a ) :=
  ok_defWO (N := nWith) (Ωs := fun j : Addr × Addr => St j.1 j.2) (Ψs := fun j => FWith j.1 ) F scWith fun j cdv A outer s H E hr => ⟨_, (sow_cons (sw_set (i := 3) (OwW.sv (OtD.w (ot_cty call_dictD r1_dctT (by rfl) B.z_dict (by decide +kernel) (av_cons (PuD.vi (pu_var (pv 0))) av_nil)))) (fun h => ps_set (i := 3) scWith.nd rfl (by first | exact Or.inl rfl | exact Or.inr rfl) h)) (sow_cons (sw_dput (i := 3) (hu_of hr) (pv 3) (PuD.w (pu_var (pv 1))) (PuD.w (pu_var (pv 2)))) (sow_ret (pv 3))))⟩
abbrev sWide : Stmt := top 81
abbrev nWide : List Str := ["_law_picks", "_law_found"]
theorem scWide : FnScope nWide ["_law_picks"] (defScope sWide) := ⟨rfl, rfl, rfl, by decide +kernel, rfl, by decide +kernel, by decide +kernel⟩
def FWide (a : Addr) : WF Nat D := (tailW (setW 1 (svO (lf (dispF ["most", "new", "ways", "picks", "guards"] (consD (kD (.leaf (.int 3))) (consD (mapS (lstDisp (consD (kD (.leaf (.str "moment"))) (consD (kD (.leaf (.str "throw"))) nilD)))) (consD (mapS (lstDisp (consD (kD (.leaf (.str "column"))) (consD (kD (.leaf (.str "number"))) nilD)))) (consD (atP 0) (consD (kD (.leaf (.int 3))) nilD))))))))) (tailW (dputW 1 (lf (kD (.leaf (.str "hows")))) (lf (mapS (lstDisp (consD (kD (.leaf (.str "words"))) (consD (kD (.leaf (.str "values"))) (consD (kD (.leaf (.str "rows"))) nilD))))))) (ownW 1)))
def fWide (a : Addr) : List D → Nat → (D → Nat → Prop) → Prop := fun ds s R => ds.length = (["_law_picks"] : List Str).length ∧ FWide a (env0 nWide.length ds) s R
theorem okWide {f : Addr} {fd : FuncData} (F : Fun K "_law_wide" "_law_wide" sWide f fd) (B : TxB2 mg) : FnOk P w K mg base CX0 1 f fd ["_law_picks"] (spSO fun a => fWide a ) :=
  ok_defWO (N := nWide) (Ωs := fun j : Addr × Addr => St j.1 j.2) (Ψs := fun j => FWide j.1 ) F scWide fun j cdv A outer s H E hr => ⟨_, (sow_cons (sw_set (i := 1) (OwW.sv (OtD.w (ot_disp (ks := ["most", "new", "ways", "picks", "guards"]) (ds_cons (x := "most") pe_str (pu_c pe_int rfl) (ds_cons (x := "new") pe_str (OwD.pu (ow_lst (ar_cons (pu_c pe_str (by decide +kernel)) (ar_cons (pu_c pe_str (by decide +kernel)) ar_nil)))) (ds_cons (x := "ways") pe_str (OwD.pu (ow_lst (ar_cons (pu_c pe_str (by decide +kernel)) (ar_cons (pu_c pe_str (by decide +kernel)) ar_nil)))) (ds_cons (x := "picks") pe_str (pu_var (pv 0)) (ds_cons (x := "guards") pe_str (pu_c pe_int rfl) ds_nil))))) (by decide +kernel) (by decide) rfl rfl (fun z => nomatch z) (by decide)))) (fun h => ps_set (i := 1) scWide.nd rfl (by first | exact Or.inl rfl | exact Or.inr rfl) h)) (sow_cons (sw_dput (i := 1) (hu_of hr) (pv 1) (PuD.w (pu_c pe_str (by decide +kernel))) (PuD.w (OwD.pu (ow_lst (ar_cons (pu_c pe_str (by decide +kernel)) (ar_cons (pu_c pe_str (by decide +kernel)) (ar_cons (pu_c pe_str (by decide +kernel)) ar_nil))))))) (sow_ret (pv 1))))⟩
abbrev sNumd : Stmt := top 90
abbrev nNumd : List Str := ["_law_s"]
theorem scNumd : FnScope nNumd ["_law_s"] (defScope sNumd) := ⟨rfl, rfl, rfl, by decide +kernel, rfl, by decide +kernel, by decide +kernel⟩
def FNumd (a : Addr) : WF Nat Ou := (seqW (lfS (ifS (orB (asBF (bin2 (scD false) (bin2 dgD (atP 0) (kD (.leaf (.str "kind")))) (kD (.leaf (.str "put"))))) (orB (asBF (bin2 (isN false) (bin2 dgD (atP 0) (kD (.leaf (.str "many")))) (kD (.leaf .non)))) (andB (asBF (bin2 (eqP true) (bin2 dgD (atP 0) (kD (.leaf (.str "by")))) (mapS (lstDisp nilD)))) (asBF (bin2 (inD false) (bin2 ixD (bin2 dgD (atP 0) (kD (.leaf (.str "by")))) (negF (kD (.leaf (.int 1))))) (tupDisp (consD (kD (.leaf (.str "number"))) (consD (kD (.leaf (.str "-number"))) nilD)))))))) (retF (atP 0)) skipF)) (retW (callW (fWith a) (consW (lf (atP 0)) (consW (lf (kD (.leaf (.str "by")))) (consW (lf (bin2 addD (bin2 dgD (atP 0) (kD (.leaf (.str "by")))) (mapS (lstDisp (consD (kD (.leaf (.str "number"))) nilD))))) nilW))))))
def fNumd (a : Addr) : List D → Nat → (D → Nat → Prop) → Prop := fun ds s R => ds.length = (["_law_s"] : List Str).length ∧ runW nNumd.length (FNumd a ) ds s R
theorem okNumd {f : Addr} {fd : FuncData} (F : Fun K "_law_numbered_by" "_law_numbered_by" sNumd f fd) (B : TxB2 mg) (hWp : FnE P w K mg base "_law_with_part" 1 (spSO fWith)) : FnOk P w K mg base CX0 3 f fd ["_law_s"] (spS fun a => fNumd a ) :=
  ok_defW (N := nNumd) (Ωs := fun j : Addr × Addr => St j.1 j.2) (Φs := fun j => FNumd j.1 ) F scNumd fun j cdv A outer s H E hr => ⟨_, (ssw_cons (StD.w (sd_if (TwD.te (tw_or (te_cmp op_eq r2_eqS (nomark _) (PuD.vi (pu_dg (hu_of hr) (PuD.vi (pu_var (pv 0))) (PuD.vi (pu_c pe_str (by decide +kernel))) (fun _ _ => rfl))) (PuD.vi (pu_c pe_str (by decide +kernel)))) (tw_or (te_cmp op_isN r2_isN (nomark _) (PuD.vi (pu_dg (hu_of hr) (PuD.vi (pu_var (pv 0))) (PuD.vi (pu_c pe_str (by decide +kernel))) (fun _ _ => rfl))) (PuD.vi (pu_c pe_non rfl))) (tw_or1 (TwD.te (tw_and (te_cmp (op_neD (hr.units)) r2_neD (nomark _) (PuD.vi (pu_dg (hu_of hr) (PuD.vi (pu_var (pv 0))) (PuD.vi (pu_c pe_str (by decide +kernel))) (fun _ _ => rfl))) (PuD.vi (OwD.pu (ow_lst ar_nil)))) (tw_and1 (te_cmp op_in_seq r2_in (by with_unfolding_all rfl) (PuD.vi (pu_ix (PuD.vi (pu_dg (hu_of hr) (PuD.vi (pu_var (pv 0))) (PuD.vi (pu_c pe_str (by decide +kernel))) (fun _ _ => rfl))) (PuD.vi (pu_neg (pu_c pe_int rfl))) (fun _ _ => rfl))) (PuD.vi (pu_tup (ar_cons (pu_c pe_str (by decide +kernel)) (ar_cons (pu_c pe_str (by decide +kernel)) ar_nil)))))))))))) (ss_one (sd_ret (pu_var (pv 0)))) ss_nil)) (ssw_one (sw_ret (OwW.pu (ow_call hWp subSO (hr.mono (by first | decide | omega)) (by rfl) (aw_cons (PuD.w (pu_var (pv 0))) (aw_cons (PuD.w (pu_c pe_str (by decide +kernel))) (aw_cons (PuD.w (pu_add (PuD.vi (pu_dg (hu_of hr) (PuD.vi (pu_var (pv 0))) (PuD.vi (pu_c pe_str (by decide +kernel))) (fun _ _ => rfl))) (PuD.vi (OwD.pu (ow_lst (ar_cons (pu_c pe_str (by decide +kernel)) ar_nil)))))) aw_nil))))))))⟩
abbrev sBent : Stmt := top 89
abbrev nBent : List Str := ["_law_stream", "_law_w", "_law_s", "_law_way", "_law_change_here"]
theorem scBent : FnScope nBent ["_law_stream", "_law_w", "_law_s"] (defScope sBent) := ⟨rfl, rfl, rfl, by decide +kernel, rfl, by decide +kernel, by decide +kernel⟩
def FBent (a : Addr) : WF Nat Ou := (seqW (setW 3 (svP (callW (drawW a) (consW (lf (atP 0)) (consW (lf (kD (.leaf (.int 5)))) nilW))))) (seqW (ifSW (lf (andB (asBF (bin2 (scD false) (atP 3) (kD (.leaf (.int 0))))) (asBF (bin2 (scD true) (bin2 dgD (atP 2) (kD (.leaf (.str "kind")))) (kD (.leaf (.str "put"))))))) (retW (callW (fWith a) (consW (lf (atP 2)) (consW (lf (kD (.leaf (.str "look")))) (consW (lf (tupDisp (consD (kD (.leaf (.str "not"))) (consD (tupDisp (consD (kD (.leaf (.str "not"))) (consD (bin2 dgD (atP 2) (kD (.leaf (.str "look")))) nilD))) nilD)))) nilW))))) (lfS skipF)) (seqW (ifSW (lf (andB (asBF (bin2 (scD false) (atP 3) (kD (.leaf (.int 1))))) (asBF (bin2 (scD true) (bin2 dgD (atP 2) (kD (.leaf (.str "kind")))) (kD (.leaf (.str "put"))))))) (retW (callW (fWith a) (consW (lf (atP 2)) (consW (lf (kD (.leaf (.str "must")))) (consW (lf (notF (bin2 dgD (atP 2) (kD (.leaf (.str "must")))))) nilW))))) (lfS skipF)) (seqW (ifSW (lf (asBF (bin2 (scD false) (atP 3) (kD (.leaf (.int 2)))))) (retW (callW (fWith a) (consW (lf (atP 2)) (consW (lf (kD (.leaf (.str "how")))) (consW (callW (fPickW a) (consW (lf (atP 0)) (consW (lf (mapS (lstDisp (consD (kD (.leaf (.str "words"))) (consD (kD (.leaf (.str "values"))) (consD (kD (.leaf (.str "rows"))) nilD)))))) nilW))) nilW))))) (lfS skipF)) (seqW (ifSW (lf (andB (asBF (bin2 (scD false) (atP 3) (kD (.leaf (.int 3))))) (asBF (bin2 (isN true) (bin2 dgD (atP 2) (kD (.leaf (.str "when")))) (kD (.leaf .non)))))) (retW (callW (fWith a) (consW (lf (atP 2)) (consW (lf (kD (.leaf (.str "when")))) (consW (tupW (consW (callW (fPickW a) (consW (lf (atP 0)) (consW (lf (mapS (lstDisp (consD (kD (.leaf (.str "some"))) (consD (kD (.leaf (.str "none"))) nilD))))) nilW))) (consW (lf (bin2 ixD (bin2 dgD (atP 2) (kD (.leaf (.str "when")))) (kD (.leaf (.int 1))))) nilW))) nilW))))) (lfS skipF)) (seqW (ifSW (lf (andB (asBF (bin2 (scD false) (bin2 dgD (atP 2) (kD (.leaf (.str "kind")))) (kD (.leaf (.str "change"))))) (asBF (bin2 (scD false) (atP 3) (kD (.leaf (.int 4))))))) (retW (callW (fWith a) (consW (lf (atP 2)) (consW (lf (kD (.leaf (.str "changes")))) (consW (lf (mapS (lcF [4] (seqsF (bin2 dgD (atP 2) (kD (.leaf (.str "changes"))))) (setF 4) yesF (orE (mapS (revO (atP 4))) (revT (atP 4)))))) nilW))))) (lfS skipF)) (lfS (retF (app1 dctD (consD (atP 2) nilD))))))))))
def fBent (a : Addr) : List D → Nat → (D → Nat → Prop) → Prop := fun ds s R => ds.length = (["_law_stream", "_law_w", "_law_s"] : List Str).length ∧ runW nBent.length (FBent a ) ds s R
theorem okBent {f : Addr} {fd : FuncData} (F : Fun K "_law_bent" "_law_bent" sBent f fd) (B : TxB2 mg) (hDr : FnE P w K mg base "_law_draw" 1 spDraw) (hPk : FnE P w K mg base "_law_pick" 2 (spS fPickW)) (hWp : FnE P w K mg base "_law_with_part" 1 (spSO fWith)) : FnOk P w K mg base CX0 4 f fd ["_law_stream", "_law_w", "_law_s"] (spS fun a => fBent a ) :=
  ok_defW (N := nBent) (Ωs := fun j : Addr × Addr => St j.1 j.2) (Φs := fun j => FBent j.1 ) F scBent fun j cdv A outer s H E hr => ⟨_, (ssw_cons (sw_set (i := 3) (PuW.sv (pw_call hDr subDraw (hr.mono (by first | decide | omega)) (by rfl) (aw_cons (PuD.w (pu_var (pv 0))) (aw_cons (PuD.w (pu_c pe_int rfl)) aw_nil)))) (fun h => ps_set (i := 3) scBent.nd rfl (by first | exact Or.inl rfl | exact Or.inr rfl) h)) (ssw_cons (sw_if (TeD.w (TwD.te (tw_and (te_cmp op_eq r2_eqS (nomark _) (PuD.vi (pu_var (pv 3))) (PuD.vi (pu_c pe_int rfl))) (tw_and1 (te_cmp op_ne r2_neS (nomark _) (PuD.vi (pu_dg (hu_of hr) (PuD.vi (pu_var (pv 2))) (PuD.vi (pu_c pe_str (by decide +kernel))) (fun _ _ => rfl))) (PuD.vi (pu_c pe_str (by decide +kernel)))))))) (ssw_one (sw_ret (OwW.pu (ow_call hWp subSO (hr.mono (by first | decide | omega)) (by rfl) (aw_cons (PuD.w (pu_var (pv 2))) (aw_cons (PuD.w (pu_c pe_str (by decide +kernel))) (aw_cons (PuD.w (pu_tup (ar_cons (pu_c pe_str (by decide +kernel)) (ar_cons (pu_tup (ar_cons (pu_c pe_str (by decide +kernel)) (ar_cons (pu_dg (hu_of hr) (PuD.vi (pu_var (pv 2))) (PuD.vi (pu_c pe_str (by decide +kernel))) (fun _ _ => rfl)) ar_nil))) ar_nil)))) aw_nil))))))) (SsD.w ss_nil)) (ssw_cons (sw_if (TeD.w (TwD.te (tw_and (te_cmp op_eq r2_eqS (nomark _) (PuD.vi (pu_var (pv 3))) (PuD.vi (pu_c pe_int rfl))) (tw_and1 (te_cmp op_ne r2_neS (nomark _) (PuD.vi (pu_dg (hu_of hr) (PuD.vi (pu_var (pv 2))) (PuD.vi (pu_c pe_str (by decide +kernel))) (fun _ _ => rfl))) (PuD.vi (pu_c pe_str (by decide +kernel)))))))) (ssw_one (sw_ret (OwW.pu (ow_call hWp subSO (hr.mono (by first | decide | omega)) (by rfl) (aw_cons (PuD.w (pu_var (pv 2))) (aw_cons (PuD.w (pu_c pe_str (by decide +kernel))) (aw_cons (PuD.w (pu_notT (PuD.vi (pu_dg (hu_of hr) (PuD.vi (pu_var (pv 2))) (PuD.vi (pu_c pe_str (by decide +kernel))) (fun _ _ => rfl))))) aw_nil))))))) (SsD.w ss_nil)) (ssw_cons (sw_if (TeD.w (te_cmp op_eq r2_eqS (nomark _) (PuD.vi (pu_var (pv 3))) (PuD.vi (pu_c pe_int rfl)))) (ssw_one (sw_ret (OwW.pu (ow_call hWp subSO (hr.mono (by first | decide | omega)) (by rfl) (aw_cons (PuD.w (pu_var (pv 2))) (aw_cons (PuD.w (pu_c pe_str (by decide +kernel))) (aw_cons (pw_call hPk subS (hr.mono (by first | decide | omega)) (by rfl) (aw_cons (PuD.w (pu_var (pv 0))) (aw_cons (PuD.w (OwD.pu (ow_lst (ar_cons (pu_c pe_str (by decide +kernel)) (ar_cons (pu_c pe_str (by decide +kernel)) (ar_cons (pu_c pe_str (by decide +kernel)) ar_nil)))))) aw_nil))) aw_nil))))))) (SsD.w ss_nil)) (ssw_cons (sw_if (TeD.w (TwD.te (tw_and (te_cmp op_eq r2_eqS (nomark _) (PuD.vi (pu_var (pv 3))) (PuD.vi (pu_c pe_int rfl))) (tw_and1 (te_cmp op_notN r2_notN (nomark _) (PuD.vi (pu_dg (hu_of hr) (PuD.vi (pu_var (pv 2))) (PuD.vi (pu_c pe_str (by decide +kernel))) (fun _ _ => rfl))) (PuD.vi (pu_c pe_non rfl))))))) (ssw_one (sw_ret (OwW.pu (ow_call hWp subSO (hr.mono (by first | decide | omega)) (by rfl) (aw_cons (PuD.w (pu_var (pv 2))) (aw_cons (PuD.w (pu_c pe_str (by decide +kernel))) (aw_cons (pw_tup (aw_cons (pw_call hPk subS (hr.mono (by first | decide | omega)) (by rfl) (aw_cons (PuD.w (pu_var (pv 0))) (aw_cons (PuD.w (OwD.pu (ow_lst (ar_cons (pu_c pe_str (by decide +kernel)) (ar_cons (pu_c pe_str (by decide +kernel)) ar_nil))))) aw_nil))) (aw_cons (PuD.w (pu_ix (PuD.vi (pu_dg (hu_of hr) (PuD.vi (pu_var (pv 2))) (PuD.vi (pu_c pe_str (by decide +kernel))) (fun _ _ => rfl))) (PuD.vi (pu_c pe_int rfl)) (fun _ _ => rfl))) aw_nil))) aw_nil))))))) (SsD.w ss_nil)) (ssw_cons (sw_if (TeD.w (TwD.te (tw_and (te_cmp op_eq r2_eqS (nomark _) (PuD.vi (pu_dg (hu_of hr) (PuD.vi (pu_var (pv 2))) (PuD.vi (pu_c pe_str (by decide +kernel))) (fun _ _ => rfl))) (PuD.vi (pu_c pe_str (by decide +kernel)))) (tw_and1 (te_cmp op_eq r2_eqS (nomark _) (PuD.vi (pu_var (pv 3))) (PuD.vi (pu_c pe_int rfl))))))) (ssw_one (sw_ret (OwW.pu (ow_call hWp subSO (hr.mono (by first | decide | omega)) (by rfl) (aw_cons (PuD.w (pu_var (pv 2))) (aw_cons (PuD.w (pu_c pe_str (by decide +kernel))) (aw_cons (PuD.w (OwD.pu (LcD.ow (lc0 [("_law_change_here", 4)] (it_seq (pu_dg (hu_of hr) (PuD.vi (pu_var (pv 2))) (PuD.vi (pu_c pe_str (by decide +kernel))) (fun _ _ => rfl))) (blkOk_by (N := nBent) (sc := defScope sBent) (by decide +kernel)) (fun _ _ _ _ _ => (tg_name (pg_name (i := 4) scBent.nd rfl (Or.inl rfl)))) (fun _ _ _ _ _ => (tw_name (by decide))) (fun _ _ _ _ _ => (PuD.or (OwD.pu (ow_rev (PuD.vi (pu_var (pv 4))))) (pu_revT (PuD.vi (pu_var (pv 4))))))) rfl scBent.nd))) aw_nil))))))) (SsD.w ss_nil)) (SsD.w (ss_one (sd_ret (pu_cty call_dictD r1_dct (by rfl) B.z_dict (by decide +kernel) (av_cons (PuD.vi (pu_var (pv 2))) av_nil)))))))))))⟩
end
end L2.K1

namespace L2.K1
open PySem PySem.Spec PyProof.Rows L2.Tr
noncomputable section
variable {P : Program} {w : World} {K : PySem.W.Frag} {mg : Str → Option Value} {base : Heap}
abbrev sShows : Stmt := top 91
abbrev nShows : List Str := ["_law_w", "_law_columns_here", "_law_s", "_law_made_here", "_law_told", "_law_way", "_law_other", "_law_thing"]
theorem scShows : FnScope nShows ["_law_w", "_law_columns_here", "_law_s", "_law_made_here"] (defScope sShows) := ⟨rfl, rfl, rfl, by decide +kernel, rfl, by decide +kernel, by decide +kernel⟩
def FShows (a : Addr) (C CP CD CH : Addr) (LP LD LC : List Addr) (gPT gPB gDT gDB gCT gCB gPE gDE gCE gSm gMd gEv : List D → Option D) : WF Nat Ou := (seqW (lfS (asgF (mapS (lstDisp (consD (orE (fldF CP "kind" (atP 3)) (orE (fldF CD "kind" (atP 3)) (fldF CH "kind" (atP 3)))) (consD (orE (fldF CP "how" (atP 3)) (orE (fldF CD "how" (atP 3)) (fldF CH "how" (atP 3)))) (consD (orE (fldF CP "must" (atP 3)) (orE (fldF CD "must" (atP 3)) (fldF CH "must" (atP 3)))) nilD))))) (setF 4))) (seqW (lfS (ifS (orB (notB (truF (app1 gSm (consD (atP 4) (consD (mapS (lstDisp (consD (bin2 dgD (atP 2) (kD (.leaf (.str "kind")))) (consD (bin2 dgD (atP 2) (kD (.leaf (.str "how")))) (consD (bin2 dgD (atP 2) (kD (.leaf (.str "must")))) nilD))))) nilD))))) (asBF (bin2 (eqOD true C (fEq C)) (orE (fldF CP "columns" (atP 3)) (orE (fldF CD "columns" (atP 3)) (fldF CH "columns" (atP 3)))) (atP 1)))) (retF (kD (.leaf (.bl false)))) skipF)) (seqW (forW (lf (seqsF (mapS (lstDisp (consD (kD (.leaf (.str "words"))) (consD (kD (.leaf (.str "values"))) (consD (kD (.leaf (.str "rows"))) nilD))))))) (setF 5) (seqW (lfS (asgF (orE (metF CP "told" gPT (atP 3) (consD (atP 5) nilD)) (orE (metF CD "told" gDT (atP 3) (consD (atP 5) nilD)) (metF CH "told" gCT (atP 3) (consD (atP 5) nilD)))) (setF 6))) (ifSW (orW (lf (notB (truF (app1 gSm (consD (orE (fldF CP "how" (atP 6)) (orE (fldF CD "how" (atP 6)) (fldF CH "how" (atP 6)))) (consD (atP 5) nilD)))))) (asW (b2W (fun x y => ((eqOX LP true CP gPE) x y).or (((eqOX LD true CD gDE) x y).or ((eqOX LC true CH gCE) x y))) (lf (atP 6)) (callW (detW gMd) (consW (lf (atP 1)) (consW (callW (fWith a) (consW (lf (atP 2)) (consW (lf (kD (.leaf (.str "how")))) (consW (lf (atP 5)) nilW)))) nilW)))))) (lfS (retF (kD (.leaf (.bl false))))) (lfS skipF)))) (seqW (lfS (asgF (orE (metF CP "by_number" gPB (atP 3) nilD) (orE (metF CD "by_number" gDB (atP 3) nilD) (metF CH "by_number" gCB (atP 3) nilD))) (setF 6))) (seqW (ifSW (orW (asW (b2W (fun x y => ((eqOX LP true CP gPE) x y).or (((eqOX LD true CD gDE) x y).or ((eqOX LC true CH gCE) x y))) (lf (atP 6)) (callW (detW gMd) (consW (lf (atP 1)) (consW (callW (fNumd a) (consW (lf (atP 2)) nilW)) nilW))))) (lf (asBF (bin2 (fun x y => ((eqOX LP true CP gPE) x y).or (((eqOX LD true CD gDE) x y).or ((eqOX LC true CH gCE) x y))) (orE (metF CP "by_number" gPB (atP 6) nilD) (orE (metF CD "by_number" gDB (atP 6) nilD) (metF CH "by_number" gCB (atP 6) nilD))) (atP 6))))) (lfS (retF (kD (.leaf (.bl false))))) (lfS skipF)) (lfS (retF (notF (app1 anyD (consD (mapS (lcF [7] (seqsF (mapS (lstDisp (consD (kD (.leaf (.int 5))) (consD (kD (.leaf .non)) (consD (bin2 dgD (atP 2) (kD (.leaf (.str "kind")))) (consD (app1 gEv (consD (atP 1) nilD)) nilD))))))) (setF 7) yesF (bin2 (fun x y => ((eqOX LP false CP gPE) x y).or (((eqOX LD false CD gDE) x y).or ((eqOX LC false CH gCE) x y))) (atP 3) (atP 7)))) nilD))))))))))
def fShows (a : Addr) (C CP CD CH : Addr) (LP LD LC : List Addr) (gPT gPB gDT gDB gCT gCB gPE gDE gCE gSm gMd gEv : List D → Option D) : List D → Nat → (D → Nat → Prop) → Prop := fun ds s R => ds.length = (["_law_w", "_law_columns_here", "_law_s", "_law_made_here"] : List Str).length ∧ runW nShows.length (FShows a C CP CD CH LP LD LC gPT gPB gDT gDB gCT gCB gPE gDE gCE gSm gMd gEv ) ds s R
theorem okShows {f : Addr} {fd : FuncData} (C CP CD CH : Addr) (LP LD LC : List Addr) (gPT gPB gDT gDB gCT gCB gPE gDE gCE gSm gMd gEv : List D → Option D) (F : Fun K "_law_shows" "_law_shows" sShows f fd) (B : TxB2 mg) (clp : Cls K CP) (p0 : NoAttr K CP "kind") (p1 : NoAttr K CP "columns") (p4 : NoAttr K CP "must") (p5 : NoAttr K CP "how") (cld : Cls K CD) (d0 : NoAttr K CD "kind") (d1 : NoAttr K CD "columns") (d6 : NoAttr K CD "must") (d7 : NoAttr K CD "how") (clh : Cls K CH) (h0 : NoAttr K CH "kind") (h1 : NoAttr K CH "columns") (h7 : NoAttr K CH "must") (h8 : NoAttr K CH "how") (mPT : Mth P w K mg base CP "told" 8 gPT) (mPB : Mth P w K mg base CP "by_number" 8 gPB) (mDT : Mth P w K mg base CD "told" 8 gDT) (mDB : Mth P w K mg base CD "by_number" 8 gDB) (mCT : Mth P w K mg base CH "told" 8 gCT) (mCB : Mth P w K mg base CH "by_number" 8 gCB) (mPE : Eqr P w K mg base CP 9 gPE) (mDE : Eqr P w K mg base CD 9 gDE) (mCE : Eqr P w K mg base CH 9 gCE) (hLP : ∀ C2 ∈ LP, PySem.W.notFirst K CP (.ref C2) = true) (hLD : ∀ C2 ∈ LD, PySem.W.notFirst K CD (.ref C2) = true) (hLC : ∀ C2 ∈ LC, PySem.W.notFirst K CH (.ref C2) = true) (mCol : Eqr P w K mg base C 1 (fEq C)) (hWp : FnE P w K mg base "_law_with_part" 1 (spSO fWith)) (hNb : FnE P w K mg base "_law_numbered_by" 3 (spS fNumd)) (hS : Fn P w K mg base "_law_same" 6 2 gSm) (hMd : Fn P w K mg base "_law_made" 11 2 gMd) (hEv : Fn P w K mg base "every" 4 1 gEv) : FnOk P w K mg base CX0 12 f fd ["_law_w", "_law_columns_here", "_law_s", "_law_made_here"] (spS fun a => fShows a C CP CD CH LP LD LC gPT gPB gDT gDB gCT gCB gPE gDE gCE gSm gMd gEv ) :=
  ok_defW (N := nShows) (Ωs := fun j : Addr × Addr => St j.1 j.2) (Φs := fun j => FShows j.1 C CP CD CH LP LD LC gPT gPB gDT gDB gCT gCB gPE gDE gCE gSm gMd gEv ) F scShows fun j cdv A outer s H E hr => ⟨_, (ssw_cons (StD.w (sd_nm (OwD.pu (ow_lst (ar_cons (PuD.or (pu_fld clp p0 (PuD.vi (pu_var (pv 3)))) (PuD.or (pu_fld cld d0 (PuD.vi (pu_var (pv 3)))) (pu_fld clh h0 (PuD.vi (pu_var (pv 3)))))) (ar_cons (PuD.or (pu_fld clp p5 (PuD.vi (pu_var (pv 3)))) (PuD.or (pu_fld cld d7 (PuD.vi (pu_var (pv 3)))) (pu_fld clh h8 (PuD.vi (pu_var (pv 3)))))) (ar_cons (PuD.or (pu_fld clp p4 (PuD.vi (pu_var (pv 3)))) (PuD.or (pu_fld cld d6 (PuD.vi (pu_var (pv 3)))) (pu_fld clh h7 (PuD.vi (pu_var (pv 3)))))) ar_nil))))) (fun h => ps_set (i := 4) scShows.nd rfl (by first | exact Or.inl rfl | exact Or.inr rfl) h))) (ssw_cons (StD.w (sd_if (TwD.te (tw_or (te_not (te_tru (PuD.vi (pu_call hS (hr.mono (by first | decide | omega)) (by rfl) (ar_cons (pu_var (pv 4)) (ar_cons (OwD.pu (ow_lst (ar_cons (pu_dg (hu_of hr) (PuD.vi (pu_var (pv 2))) (PuD.vi (pu_c pe_str (by decide +kernel))) (fun _ _ => rfl)) (ar_cons (pu_dg (hu_of hr) (PuD.vi (pu_var (pv 2))) (PuD.vi (pu_c pe_str (by decide +kernel))) (fun _ _ => rfl)) (ar_cons (pu_dg (hu_of hr) (PuD.vi (pu_var (pv 2))) (PuD.vi (pu_c pe_str (by decide +kernel))) (fun _ _ => rfl)) ar_nil))))) ar_nil)))) (fun _ => rfl))) (tw_or1 (te_cmp (eqr_ne mCol (hr.mono (by first | decide | omega))) r2_eqO (nomark _) (PuD.vi (PuD.or (pu_fld clp p1 (PuD.vi (pu_var (pv 3)))) (PuD.or (pu_fld cld d1 (PuD.vi (pu_var (pv 3)))) (pu_fld clh h1 (PuD.vi (pu_var (pv 3))))))) (PuD.vi (pu_var (pv 1))))))) (ss_one (sd_ret (pu_c pe_bl rfl))) ss_nil)) (ssw_cons (sw_for PassesOwn.never rfl (ItD.w (it_seq (OwD.pu (ow_lst (ar_cons (pu_c pe_str (by decide +kernel)) (ar_cons (pu_c pe_str (by decide +kernel)) (ar_cons (pu_c pe_str (by decide +kernel)) ar_nil))))))) (tg_name (pg_name (i := 5) scShows.nd rfl (by first | exact Or.inl rfl | exact Or.inr rfl))) (ssw_cons (StD.w (sd_nm (PuD.or (pu_meth mPT (hr.mono (by first | decide | omega)) (pu_var (pv 3)) (ar_cons (pu_var (pv 5)) ar_nil)) (PuD.or (pu_meth mDT (hr.mono (by first | decide | omega)) (pu_var (pv 3)) (ar_cons (pu_var (pv 5)) ar_nil)) (pu_meth mCT (hr.mono (by first | decide | omega)) (pu_var (pv 3)) (ar_cons (pu_var (pv 5)) ar_nil)))) (fun h => ps_set (i := 6) scShows.nd rfl (by first | exact Or.inl rfl | exact Or.inr rfl) h))) (ssw_one (sw_if (TwW.te (tww_or (TeD.w (te_not (te_tru (PuD.vi (pu_call hS (hr.mono (by first | decide | omega)) (by rfl) (ar_cons (PuD.or (pu_fld clp p5 (PuD.vi (pu_var (pv 6)))) (PuD.or (pu_fld cld d7 (PuD.vi (pu_var (pv 6)))) (pu_fld clh h8 (PuD.vi (pu_var (pv 6)))))) (ar_cons (pu_var (pv 5)) ar_nil)))) (fun _ => rfl)))) (tww_or1 (tw_cmp (OpR.or (eqr_neX mPE (hr.mono (by first | decide | omega))) (OpR.or (eqr_neX mDE (hr.mono (by first | decide | omega))) (eqr_neX mCE (hr.mono (by first | decide | omega))))) (R2D.or (r2_eqOX hLP) (R2D.or (r2_eqOX hLD) (r2_eqOX hLC))) (nomark _) (PuD.w (pu_var (pv 6))) (pw_call (Fn.toE hMd) subP (hr.mono (by first | decide | omega)) (by rfl) (aw_cons (PuD.w (pu_var (pv 1))) (aw_cons (OwW.pu (ow_call hWp subSO (hr.mono (by first | decide | omega)) (by rfl) (aw_cons (PuD.w (pu_var (pv 2))) (aw_cons (PuD.w (pu_c pe_str (by decide +kernel))) (aw_cons (PuD.w (pu_var (pv 5))) aw_nil))))) aw_nil))))))) (SsD.w (ss_one (sd_ret (pu_c pe_bl rfl)))) (SsD.w ss_nil))))) (ssw_cons (StD.w (sd_nm (PuD.or (pu_meth0 mPB (hr.mono (by first | decide | omega)) (pu_var (pv 3))) (PuD.or (pu_meth0 mDB (hr.mono (by first | decide | omega)) (pu_var (pv 3))) (pu_meth0 mCB (hr.mono (by first | decide | omega)) (pu_var (pv 3))))) (fun h => ps_set (i := 6) scShows.nd rfl (by first | exact Or.inl rfl | exact Or.inr rfl) h))) (ssw_cons (sw_if (TwW.te (tww_or (tw_cmp (OpR.or (eqr_neX mPE (hr.mono (by first | decide | omega))) (OpR.or (eqr_neX mDE (hr.mono (by first | decide | omega))) (eqr_neX mCE (hr.mono (by first | decide | omega))))) (R2D.or (r2_eqOX hLP) (R2D.or (r2_eqOX hLD) (r2_eqOX hLC))) (nomark _) (PuD.w (pu_var (pv 6))) (pw_call (Fn.toE hMd) subP (hr.mono (by first | decide | omega)) (by rfl) (aw_cons (PuD.w (pu_var (pv 1))) (aw_cons (pw_call hNb subS (hr.mono (by first | decide | omega)) (by rfl) (aw_cons (PuD.w (pu_var (pv 2))) aw_nil)) aw_nil)))) (tww_or1 (TeD.w (te_cmp (OpR.or (eqr_neX mPE (hr.mono (by first | decide | omega))) (OpR.or (eqr_neX mDE (hr.mono (by first | decide | omega))) (eqr_neX mCE (hr.mono (by first | decide | omega))))) (R2D.or (r2_eqOX hLP) (R2D.or (r2_eqOX hLD) (r2_eqOX hLC))) (nomark _) (PuD.vi (PuD.or (pu_meth0 mPB (hr.mono (by first | decide | omega)) (pu_var (pv 6))) (PuD.or (pu_meth0 mDB (hr.mono (by first | decide | omega)) (pu_var (pv 6))) (pu_meth0 mCB (hr.mono (by first | decide | omega)) (pu_var (pv 6)))))) (PuD.vi (pu_var (pv 6)))))))) (SsD.w (ss_one (sd_ret (pu_c pe_bl rfl)))) (SsD.w ss_nil)) (SsD.w (ss_one (sd_ret (pu_notT (PuD.vi (pu_cb (cr_any rfl) r1_any (by rfl) B.z_any (by decide +kernel) (av_cons (PuD.vi (OwD.pu (LcD.ow (lc0 [("_law_thing", 7)] (it_seq (OwD.pu (ow_lst (ar_cons (pu_c pe_int rfl) (ar_cons (pu_c pe_non rfl) (ar_cons (pu_dg (hu_of hr) (PuD.vi (pu_var (pv 2))) (PuD.vi (pu_c pe_str (by decide +kernel))) (fun _ _ => rfl)) (ar_cons (pu_call hEv (hr.mono (by first | decide | omega)) (by rfl) (ar_cons (pu_var (pv 1)) ar_nil)) ar_nil))))))) (blkOk_by (N := nShows) (sc := defScope sShows) (by decide +kernel)) (fun _ _ _ _ _ => (tg_name (pg_name (i := 7) scShows.nd rfl (Or.inl rfl)))) (fun _ _ _ _ _ => (tw_name (by decide))) (fun _ _ _ _ _ => (pu_cmp (OpR.or (eqr_eqX mPE (hr.mono (by first | decide | omega))) (OpR.or (eqr_eqX mDE (hr.mono (by first | decide | omega))) (eqr_eqX mCE (hr.mono (by first | decide | omega))))) (R2D.or (r2_eqOX hLP) (R2D.or (r2_eqOX hLD) (r2_eqOX hLC))) (nomark _) (PuD.vi (pu_var (pv 3))) (PuD.vi (pu_var (pv 7)))))) rfl scShows.nd))) av_nil))))))))))))⟩
end
end L2.K1

/-! An own list is taken as a value while an expression is read whose result holds no list. -/
namespace L2.Tr
open PySem PySem.Spec PyProof.Rows
mutual
/-- no list inside -/
def noLst : D → Bool
  | .leaf _ => true
  | .seq b ds => !b && noLsts ds
  | .obj _ _ ds => noLsts ds
  | .dct _ ds => noLsts ds
  | .frz _ ds => noLsts ds
def noLsts : List D → Bool
  | [] => true
  | d :: r => noLst d && noLsts r
end
/-- G without p -/
def cutH (G : Hp) (p : Addr) : Hp := fun a => if a = p then none else G a
mutual
theorem Rep.cut {G : Hp} {p : Addr} {us : List V} (hp : G p = some (.lst us)) : ∀ {d : D} {v : V}, noLst d = true → Rep G d v → Rep (cutH G p) d v
  | .leaf x, v, _, h => by unfold Rep at h ⊢; exact h
  | .seq true ds, v, n, h => by simp [noLst] at n
  | .seq false ds, v, n, h => by
    unfold Rep at h ⊢
    obtain ⟨a, ws, h1, h2, h3, h4⟩ := h
    have na : a ≠ p := fun e => by rw [e, hp] at h2; cases h2
    exact ⟨a, ws, h1, (if_neg na).trans h2, h3, Reps.cut hp (by simpa [noLst] using n) h4⟩
  | .dct ks ds, v, n, h => by
    unfold Rep at h ⊢
    obtain ⟨a, ws, h1, h2, h3, h3', h4⟩ := h
    have na : a ≠ p := fun e => by rw [e, hp] at h2; cases h2
    exact ⟨a, ws, h1, (if_neg na).trans h2, h3, h3', Reps.cut hp (by simpa [noLst] using n) h4⟩
  | .frz ks ds, v, n, h => by
    unfold Rep at h ⊢
    obtain ⟨a, ws, o, h1, h2, h3, h3', h4⟩ := h
    have na : a ≠ p := fun e => by rw [e, hp] at h2; cases h2
    exact ⟨a, ws, o, h1, (if_neg na).trans h2, h3, h3', Reps.cut hp (by simpa [noLst] using n) h4⟩
  | .obj C ns ds, v, n, h => by
    unfold Rep at h ⊢
    obtain ⟨a, dx, ws, h1, h2, h3, h4⟩ := h
    have na : a ≠ p := fun e => by rw [e, hp] at h2; cases h2
    exact ⟨a, dx, ws, h1, (if_neg na).trans h2, h3, Reps.cut hp (by simpa [noLst] using n) h4⟩
theorem Reps.cut {G : Hp} {p : Addr} {us : List V} (hp : G p = some (.lst us)) : ∀ {ds : List D} {ws : List V}, noLsts ds = true → Reps G ds ws → Reps (cutH G p) ds ws
  | [], ws, _, h => by unfold Reps at h ⊢; exact h
  | d :: ds, ws, n, h => by
    unfold Reps at h ⊢
    obtain ⟨u, r, h1, h2, h3⟩ := h
    rw [noLsts, Bool.and_eq_true] at n
    exact ⟨u, r, h1, Rep.cut hp n.1 h2, Reps.cut hp n.2 h3⟩
end
theorem frz_at {G H : Hp} {σ : St} {ρ : Env} {j : Nat} {ds : List D} (x : EnvOk G H σ ρ) (h1 : ρ[j]? = some (.ow (.seq true ds))) : ∃ p us, G p = none ∧ EnvOk (upd G p (.lst us)) H σ (ρ.set j (.pu (.seq true ds))) := by
  obtain ⟨p, ob, h2, h3, h4, h5⟩ := x.ow j _ h1
  obtain ⟨us, rfl, _, _⟩ := id h5
  have hj : j < ρ.length := (List.getElem?_eq_some_iff.mp h1).1
  have g2 : Ex (upd G p (.lst us)) H := fun a o z => by
    by_cases q : a = p
    · rw [q, upd_same] at z; rw [q]; cases z; exact h4
    · rw [upd_ne q] at z; exact x.gh _ _ z
  have rp : Rep (upd G p (.lst us)) (.seq true ds) (.ref p) := h5.rep (Ex.new h3) upd_same
  have oth : ∀ {l : Nat} {s : Sl}, j ≠ l → (ρ.set j (Sl.pu (.seq true ds)))[l]? = some s → ρ[l]? = some s := fun {l s} n e => by rwa [List.getElem?_set_ne n] at e
  have ne : ∀ {l : Nat} {es : D}, (ρ.set j (Sl.pu (.seq true ds)))[l]? = some (Sl.ow es) → j ≠ l := fun {l es} h e => by
    subst e
    rw [List.getElem?_set_self hj] at h
    cases h
  refine ⟨p, us, h3, g2, by rw [List.length_set]; exact x.len, fun l e h => ?_, fun l es h => ?_, fun l m es fs q a1 a2 a3 a4 => x.inj l m es fs q (oth (ne a1) a1) (oth (ne a2) a2) a3 a4⟩
  · by_cases n : j = l
    · subst n
      rw [List.getElem?_set_self hj] at h
      cases h
      exact ⟨_, h2, rp⟩
    · obtain ⟨v, b1, b2⟩ := x.pu l e (oth n h)
      exact ⟨v, b1, b2.mono (Ex.new h3)⟩
  · obtain ⟨q, o2, b1, b2, b3, b4⟩ := x.ow l es (oth (ne h) h)
    have : q ≠ p := fun e => ne h (x.inj j l _ es p h1 (oth (ne h) h) h2 (e ▸ b1))
    exact ⟨q, o2, b1, by rw [upd_ne this]; exact b2, b3, b4.mono (Ex.new h3)⟩
def tmpN (j : Nat) (φ : Env → Option D) : Env → Option D := fun ρ => match ρ[j]? with
  | some (.ow (.seq true ds)) => (φ (ρ.set j (.pu (.seq true ds)))).bind fun d => if noLst d = true then some d else none
  | _ => none
theorem pu_tmpN {X : Cx} {e : Expr} {t : TE} {φ : Env → Option D} (j : Nat) (h : PuD X e t φ) : PuD X e t (tmpN j φ) := ⟨h.pe, fun ρ z ee G H σ x Q k => by
  unfold tmpN at ee
  split at ee
  · rename_i ds h1
    obtain ⟨d, e1, e2⟩ := Option.bind_eq_some_iff.mp ee
    split at e2
    · rename_i hn
      cases e2
      obtain ⟨p, us, np, x2⟩ := frz_at x h1
      refine h.ev _ _ e1 _ H σ x2 Q fun v G3 H3 f3 r3 => ?_
      have hp : G3 p = some (.lst us) := f3.g p _ upd_same
      refine k v (cutH G3 p) H3 ⟨fun a o z => ?_, fun a o z => ?_, f3.h, fun a z1 z2 => ?_⟩ (r3.cut hp hn)
      · have na : a ≠ p := fun e => by rw [e, np] at z; cases z
        exact (if_neg na).trans (f3.g a o (by rw [upd_ne na]; exact z))
      · unfold cutH at z
        split at z
        · cases z
        · exact f3.gh a o z
      · by_cases na : a = p
        · exact if_pos na
        · exact (if_neg na).trans (f3.nw a z1 (by rw [upd_ne na]; exact z2))
    · cases e2
  · cases ee⟩
end L2.Tr

namespace L2.K1
open PySem PySem.Spec PyProof.Rows L2.Tr
noncomputable section
variable {P : Program} {w : World} {K : PySem.W.Frag} {mg : Str → Option Value} {base : Heap}
abbrev sLaw : Stmt := top 92
abbrev nLaw : List Str := ["_law_script", "_law_stream", "_law_turn", "_law_w", "_law_columns_here", "_law_some_here", "_law_k", "_law_made_here", "_law_s", "_law_one", "_law_two", "_law_other", "_law_due", "_law_far", "_law_change_here", "_law_order_here"]
abbrev XL (P : Program) (w : World) (K : PySem.W.Frag) (mg : Str → Option Value) (base : Heap) (f : Addr) (cdv : Value) (A : Around) (outer : List PySem.Env) (s : Shared) (H : Hp) (E : XK) : Cx := (cxOf CX0 P w K mg base nLaw "law" (defScope sLaw) f cdv A outer s H E).nox
def FLaw (j : Addr × Addr) (CP CD CH aB : Addr) (LP LD LC : List Addr) (gSt : Addr → List D → Nat → (D → Nat → Prop) → Prop) (gSh : List D → Nat → (D → Nat → Prop) → Prop) (gCo gMd gLi gSm gEv gPE gDE gCE : List D → Option D) (gDI gCI : List D → Option (List Str × List D)) : WF Nat Ou := (seqW (forW (lf (rngF (kD (.leaf (.int 4))))) (setF 2) (seqW (setW 3 (svP (callW (fWorld j.1) (consW (lf (atP 1)) (consW (lf (mapS (lstDisp (consD (tupDisp (consD (mapS (lstDisp (consD (kD (.leaf (.int 2))) (consD (kD (.leaf (.int 2))) nilD)))) (consD (kD (.leaf (.int 0))) nilD))) (consD (tupDisp (consD (mapS (lstDisp (consD (kD (.leaf (.int 2))) nilD))) (consD (kD (.leaf (.int 1))) nilD))) (consD (tupDisp (consD (mapS (lstDisp nilD)) (consD (kD (.leaf (.int 2))) nilD))) (consD (tupDisp (consD (mapS (lstDisp (consD (kD (.leaf (.int 3))) nilD))) (consD (kD (.leaf (.int 0))) nilD))) nilD))))))) nilW))))) (seqW (lfS (asgF (app1 gCo (consD (atP 3) nilD)) (setF 4))) (seqW (setW 5 (svP (lcW [6] (lf (rngF (kD (.leaf (.int 3))))) (setF 6) yesW (callW (gSt j.1) (consW (lf (atP 1)) (consW (lf (atP 3)) (consW (callW (fWide j.1) (consW (lf (mapS (lstDisp (consD (kD (.leaf .non)) (consD (kD (.leaf (.int 1))) (consD (kD (.leaf (.int 2))) nilD)))))) nilW)) nilW))))))) (seqW (setW 5 (svP (b2W addD (lf (atP 5)) (lstW (consW (callW (fBent j.1) (consW (lf (atP 1)) (consW (lf (atP 3)) (consW (lf (bin2 ixD (atP 5) (kD (.leaf (.int 0))))) nilW)))) (consW (callW (fBent j.1) (consW (lf (atP 1)) (consW (lf (atP 3)) (consW (lf (bin2 ixD (atP 5) (kD (.leaf (.int 1))))) nilW)))) nilW)))))) (seqW (lfS (asgF (mapS (lcF [8] (seqsF (atP 5)) (setF 8) yesF (app1 gMd (consD (atP 4) (consD (atP 8) nilD))))) (setF 7))) (seqW (forW (lf (zipF (atP 5) (atP 7))) (tupT 2 (consT (setF 8) (consT (setF 9) nilT))) (seqW (ifSW (notW (truW (callW gSh (consW (lf (atP 3)) (consW (lf (atP 4)) (consW (lf (atP 8)) (consW (lf (atP 9)) nilW))))))) (lfS (retF (kD (.leaf (.bl false))))) (lfS skipF)) (lfS (forF (zipF (atP 5) (atP 7)) (tupT 2 (consT (setF 10) (consT (setF 11) nilT))) (seqF (asgF (app1 gLi (consD (atP 3) (consD (atP 8) (consD (atP 10) nilD)))) (setF 12)) (ifS (notB (truF (app1 gSm (consD (mapS (lstDisp (consD (bin2 (fun x y => ((eqOX LP false CP gPE) x y).or (((eqOX LD false CD gDE) x y).or ((eqOX LC false CH gCE) x y))) (atP 9) (atP 11)) (consD (bin2 (fun x y => ((eqOX LP true CP gPE) x y).or (((eqOX LD true CD gDE) x y).or ((eqOX LC true CH gCE) x y))) (atP 9) (atP 11)) nilD)))) (consD (mapS (lstDisp (consD (atP 12) (consD (notF (atP 12)) nilD)))) nilD))))) (retF (kD (.leaf (.bl false)))) skipF)))))) (seqW (setW 13 (svP (callW (detW gCo) (consW (callW (fWorld j.1) (consW (lf (atP 1)) (consW (lf (mapS (lstDisp (consD (tupDisp (consD (mapS (lstDisp (consD (kD (.leaf (.int 1))) (consD (kD (.leaf (.int 1))) (consD (kD (.leaf (.int 1))) nilD))))) (consD (kD (.leaf (.int 0))) nilD))) nilD)))) nilW))) nilW)))) (seqW (lfS (ifS (asBF (bin2 (eqOD false CD gDE) (app1 (mkD CD fun ds => gDI (ds ++ [.non, .ref aB, .non, .bl false, .str "words"].map D.leaf)) (consD (app1 gEv (consD (atP 13) nilD)) nilD)) (app1 (mkD CD fun ds => gDI (ds ++ [.non, .ref aB, .non, .bl false, .str "words"].map D.leaf)) (consD (app1 gEv (consD (atP 4) nilD)) nilD)))) (retF (kD (.leaf (.bl false)))) skipF)) (seqW (par2W 14 15 (svO (ap1W dctP (consW (callW (fChange j.1) (consW (lf (atP 1)) (consW (lf (atP 3)) (consW (lf (mapS (lstDisp nilD))) nilW)))) nilW))) (svO (lf (mapS (lstDisp (consD (kD (.leaf (.str "number"))) nilD)))))) (lfS (seqF (asgF (app1 (mkD CH fun ds => gCI (ds ++ [.non, .bl false, .str "words"].map D.leaf)) (kwF 2 1 (consD (app1 gEv (consD (atP 4) nilD)) (consD (mapS (lstDisp (consD (app1 dctD (consD (atV 14) nilD)) nilD))) nilD)) (consD (mapS (lstDisp (consD (kD (.leaf (.str "number"))) nilD))) nilD))) (setF 9)) (seqF (asgF (tmpD 14 (tmpN 15 (app1 (mkD CH fun ds => gCI (ds ++ [.non, .bl false, .str "words"].map D.leaf)) (kwF 2 1 (consD (app1 gEv (consD (atP 4) nilD)) (consD (mapS (lstDisp (consD (atP 14) nilD))) nilD)) (consD (atP 15) nilD))))) (setF 10)) (seqF (clrF 14) (seqF (growF 15 (kD (.leaf (.str "more"))) fun xs d => xs ++ [d]) (ifS (asBF (bin2 (eqOD true CH gCE) (atP 9) (atP 10))) (retF (kD (.leaf (.bl false)))) skipF)))))))))))))))) (lfS (retF (kD (.leaf (.bl true))))))
end
end L2.K1

/-! k09: what k05 has of looks and worlds. -/
namespace L2.K1
open PySem PySem.Spec PyProof.Rows L2.Tr
section
variable {K : PySem.W.Frag} {C C3 aN aW : Addr} {ps : List (Str × List Str)} {xs named st : List Str} {z0 z1 : Str} {l m : Lk}
abbrev rW (ps : List (Str × List Str)) (xs named st : List Str) (z0 z1 : Str) : List (List Str) := rwW ps xs named z0 z1 st
theorem rows_len {named sp : List Str} (hn : named.length ≤ 2) : ∀ (os : List (Option (List Str))) (rs : List (List Str)), (∀ o ∈ os, ∀ xs, o = some xs → xs.length ≤ 3) → (rowsOf named sp os rs).length ≤ rs.length * 4 ^ os.length
  | [], rs, _ => by show rs.length ≤ rs.length * 1; omega
  | o :: os, rs, h => by
    have ih := rows_len (sp := sp) hn os (stepR named sp o rs) fun o' h' => h o' (List.mem_cons_of_mem _ h')
    have h1 := step_len (sp := sp) (o := o) hn (fun xs e => h o List.mem_cons_self xs e) rs
    refine Nat.le_trans (show _ from ih) ?_
    rw [List.length_cons, Nat.pow_succ, Nat.mul_comm (4 ^ os.length), ← Nat.mul_assoc, Nat.mul_comm rs.length 4]
    exact Nat.mul_le_mul_right _ h1
/-- few rows -/
theorem Wd.few (T : Wd ps xs named z0 z1 st) : 5 * (rW ps xs named st z0 z1).length ≤ 1000 := by
  have hos : ∀ o ∈ osOf ps xs, ∀ ys, o = some ys → ys.length ≤ 3 := fun o ho ys e => by
    rcases List.mem_append.mp ho with q | q
    · obtain ⟨p, hp, e2⟩ := List.mem_map.mp q
      rw [← e2] at e; cases e
      exact (T.c.t p hp).v.hi
    · obtain ⟨p, hp, e2⟩ := List.mem_map.mp q
      rw [← e2] at e; cases e
  have hr0 := rows_len (sp := z0 :: z1 :: st) (named := named) (by have := T.n; omega) (osOf ps xs) [[]] hos
  have l3 : (osOf ps xs).length ≤ 3 := by rw [os_len]; exact T.c.l3
  have h64 : (4 : Nat) ^ (osOf ps xs).length ≤ 64 := Nat.pow_le_pow_right (n := 4) (by decide) l3
  have e1 : ([[]] : List (List Str)).length = 1 := rfl
  rw [e1, Nat.one_mul] at hr0
  show 5 * (rowsOf named (z0 :: z1 :: st) (osOf ps xs) [[]]).length ≤ 1000
  omega
theorem prs_len {ks : List Str} : ∀ rs : List (List Str), (prsOf ks rs l m).length = 5 * rs.length := fun rs => by
  rw [← told_len ks l rs, ← prs_fst (l := l) (m := m) rs, List.length_map]
end
theorem cand_w : ∀ x ∈ candL, isW x = true ∧ x ≠ "number" := by decide +kernel
theorem cand_nd : candL.Nodup := by decide +kernel
theorem cand_len : candL.length = 22 := by decide +kernel
theorem flat_len2 : ∀ {ps : List (Str × List Str)}, (∀ p ∈ ps, p.2.length ≤ 3) → (ps.flatMap (·.2)).length ≤ 3 * ps.length
  | [], _ => Nat.zero_le _
  | p :: ps, h => by
    have := h p List.mem_cons_self
    have := flat_len2 fun q hq => h q (List.mem_cons_of_mem _ hq)
    rw [List.flatMap_cons, List.length_append, List.length_cons]
    omega
theorem spare_two {ps : List (Str × List Str)} {xs named : List Str} (h : Cols ps xs) (hn : named.length ≤ 2) :
    ∃ s0 s1 st, spareL ps xs named = s0 :: s1 :: st ∧ s0 ≠ s1 ∧ ∀ x ∈ s0 :: s1 :: st, isW x = true ∧ x ∉ named := by
  have l3 := h.l3
  have fl := flat_len2 fun p hp => (h.t p hp).v.hi
  have mem : ∀ x ∈ spareL ps xs named, x ∈ candL ∧ x ∉ knownL ps xs named := fun x hx => by
    unfold spareL at hx
    obtain ⟨h1, h2⟩ := List.mem_filter.mp hx
    exact ⟨h1, fun z => by rw [decide_eq_true z] at h2; cases h2⟩
  have nd : (spareL ps xs named).Nodup := List.Pairwise.filter _ cand_nd
  have all : ∀ x ∈ candL, x ∈ knownL ps xs named ++ spareL ps xs named := fun x hx => by
    by_cases z : x ∈ knownL ps xs named
    · exact List.mem_append_left _ z
    · refine List.mem_append_right _ ?_
      unfold spareL
      exact List.mem_filter.mpr ⟨hx, by rw [decide_eq_false z]; rfl⟩
  have len := sub_len cand_nd all
  rw [cand_len] at len
  unfold knownL at len
  rw [List.length_append, List.length_append, List.length_append, keys_len] at len
  match e : spareL ps xs named with
  | [] => rw [e] at len; exfalso; have : ([] : List Str).length = 0 := rfl; omega
  | [a] => rw [e] at len; exfalso; have : [a].length = 1 := rfl; omega
  | a :: b :: st =>
    rw [e] at mem nd
    refine ⟨a, b, st, rfl, fun z => ?_, fun x hx => ?_⟩
    · rw [z] at nd
      exact (List.nodup_cons.mp nd).1 List.mem_cons_self
    · have m := mem x hx
      refine ⟨(cand_w x m.1).1, fun z => m.2 ?_⟩
      unfold knownL
      exact List.mem_append_left _ (List.mem_append_right _ z)
end L2.K1

/-! k09: what two looks find is told apart just if the looks are unlike. -/
namespace L2.K1
open PySem PySem.Spec PyProof.Rows L2.Tr
section
variable {K : PySem.W.Frag} {C C3 aN aW : Addr} {ps : List (Str × List Str)} {xs named st : List Str} {z0 z1 : Str} {l m : Lk}
/-! k09: columns whose dict may be locked; sources. -/
namespace L2.K1
open PySem PySem.Spec PyProof.Rows L2.Tr
section
variable {C : Addr} {ps : List (Str × List Str)} {xs named : List Str}
def colF (C : Addr) (ps : List (Str × List Str)) (xs : List Str) : D := .obj C ["_values"] [.frz ((keysOf ps xs).map Sum.inr) (valsOf ps xs)]
inductive ColX (C : Addr) (ps : List (Str × List Str)) (xs : List Str) : D → Prop where
  | u : ColX C ps xs (colV C ps xs)
  | f : ColX C ps xs (colF C ps xs)
theorem fldX {c : D} (hc : ColX C ps xs c) {ρ : L2.Tr.Env} {i : Nat} (h : atP i ρ = some c) : fldF C "_values" (atP i) ρ = some (.dct ((keysOf ps xs).map Sum.inr) (valsOf ps xs)) ∨ fldF C "_values" (atP i) ρ = some (.frz ((keysOf ps xs).map Sum.inr) (valsOf ps xs)) := by
  have key : ∀ v : D, c = .obj C ["_values"] [v] → fldF C "_values" (atP i) ρ = some v := fun v e => by
    unfold fldF
    rw [h, Option.bind_some, e]
    unfold fldD
    simp [getS]
  cases hc with
  | u => exact .inl (key _ rfl)
  | f => exact .inr (key _ rfl)
theorem in_x {c : D} (hc : ColX C ps xs c) {x : Str} : fIn C [c, sD x] = some (bD (decide (x ∈ keysOf ps xs))) := by
  refine run_rt (ret_f ?_)
  show (andF _ _) [.pu c, .pu (sD x)] = _
  rw [and_t rfl]
  show (bin2 (dinB false) (atP 1) (fldF C "_values" (atP 0)) _).map bD = _
  rcases fldX hc (ρ := [.pu c, .pu (sD x)]) (i := 0) rfl with e | e
  · rw [bin_2 (d := sD x) rfl e]
    show (some (xor false (memK (.inr x) ((keysOf ps xs).map Sum.inr)))).map bD = _
    rw [memK_str, Bool.false_xor]; rfl
  · rw [bin_2 (d := sD x) rfl e]
    show (some (xor false (memK (.inr x) ((keysOf ps xs).map Sum.inr)))).map bD = _
    rw [memK_str, Bool.false_xor]; rfl
/-! k09: changes, as the package reads them. -/
namespace L2.K1
open PySem PySem.Spec PyProof.Rows L2.Tr
section
variable {C C3 CT : Addr} {ps : List (Str × List Str)} {xs named : List Str}
abbrev Ent := Key × Sr
def chD (es : List Ent) : D := .dct (es.map (·.1)) (es.map fun e => srD e.2)
def chF (es : List Ent) : D := .frz (es.map (·.1)) (es.map fun e => srD e.2)
/-! k08: changes compared. -/
namespace L2.K1
open PySem PySem.Spec PyProof.Rows L2.Tr
section
variable {K : PySem.W.Frag} {C C3 CT CB aN aW : Addr} {ps : List (Str × List Str)} {xs named st : List Str} {z0 z1 : Str} {l m : Lk}
def srP : Sr → PyData
  | .val w => .tuple [.str "value", .str w]
  | .col y => .tuple [.str "column", .str y]
  | .mom => .tuple [.str "moment"]
  | .thr => .tuple [.str "throw"]
  | .odd => .str "a"
def srW : Sr → Prop
  | .val w => isW w = true
  | .col y => isW y = true
  | _ => True
def eqB (es fs : List Ent) : Bool := decide ((es.map (·.1)).length = (fs.map (·.1)).length) && eqHits (es.map (·.1)) (es.map fun e => srP e.2) (fs.map (·.1)) (fs.map fun e => srP e.2)
/-- entries that make a change -/
structure Gd (ps : List (Str × List Str)) (xs : List Str) (es : List Ent) : Prop where
  ok : okEs es
  a : es.all (enB ps xs) = true
  n : ∀ e ∈ es, oddB e.2 = false
end
end L2.K1

/-! k08: sources and changes that are drawn. -/
namespace L2.K1
open PySem PySem.Spec PyProof.Rows L2.Tr
section
variable {ps : List (Str × List Str)} {xs named : List Str} {a : Addr}
end
end L2.K1

namespace L2.K1
open PySem PySem.Spec PyProof.Rows L2.Tr
section
variable {ps : List (Str × List Str)} {xs named : List Str} {a : Addr}
def entD (e : Ent) : D := .seq false [keyV e.1, srD e.2]
/-! k08: statements, as they are drawn. -/
namespace L2.K1
open PySem PySem.Spec PyProof.Rows L2.Tr
/-! k08: statements, drawn. -/
namespace L2.K1
open PySem PySem.Spec PyProof.Rows L2.Tr
def wideD (picks : D) : D := .dct [.inr "most", .inr "new", .inr "ways", .inr "picks", .inr "guards", .inr "hows"] [iD 3, .seq true ((["moment", "throw"] : List Str).map sD), .seq true ((["column", "number"] : List Str).map sD), picks, iD 3, .seq true ((["words", "values", "rows"] : List Str).map sD)]
def rawD (a0 a1 a2 a3 a4 a5 a6 a7 a8 : D) : D := .dct smK [a0, a1, a2, a3, a4, a5, a6, a7, a8]
section
variable {a0 a1 a2 a3 a4 a5 a6 a7 a8 d : D}
end
def bareD (k : Kd) : D := rawD (sD (kdS k)) (.seq false [sD "every"]) (.leaf .non) (.seq true []) (.leaf .non) (bD false) (sD "words") (.seq false []) (.seq true [])
variable {a : Addr}
end L2.K1

/-! k08: rows that are put, drawn. -/
namespace L2.K1
open PySem PySem.Spec PyProof.Rows L2.Tr
section
variable {ps : List (Str × List Str)} {xs named : List Str} {a : Addr}
def putR (cells : List Cell) : D := rawD (sD "put") (.seq false [sD "every"]) (.leaf .non) (.seq true []) (.leaf .non) (bD false) (sD "words") (.seq false (cells.map ceD)) (.seq true [])
def PBody (a : Addr) : WF Nat Ou := (ifSW (andW (lf (asBF (bin2 (isN false) (atP 5) (kD (.leaf .non))))) (andW (lf (asBF (bin2 (inD false) (kD (.leaf (.str "moment"))) (atP 2)))) (asW (b2W (scD false) (callW (drawW a) (consW (lf (atP 0)) (consW (lf (kD (.leaf (.int 2)))) nilW))) (lf (kD (.leaf (.int 0)))))))) (lfS (growF 4 (tupDisp (consD (kD (.leaf (.str "moment"))) nilD)) fun xs d => xs ++ [d])) (growW 4 (callW (fPickW a) (consW (lf (atP 0)) (consW (lf (ifF (asBF (bin2 (isN true) (atP 5) (kD (.leaf .non)))) (mapS (app1 lstA (consD (atP 5) nilD))) (bin2 dgD (atP 1) (kD (.leaf (.str "named")))))) nilW))) fun xs d => xs ++ [d]))
abbrev pE (a : Addr) (ps : List (Str × List Str)) (xs named : List Str) (cells : List Cell) (s5 : Sl) : L2.Tr.Env := [.pu (.leaf (.ref a)), .pu (wD ps xs named), .pu (.seq true ((["moment", "throw"] : List Str).map sD)), .ow (bareD .put), .ow (.seq true (cells.map ceD)), s5]
end
end L2.K1

/-! k08: statements, drawn. -/
namespace L2.K1
open PySem PySem.Spec PyProof.Rows L2.Tr
/-! k08: statements, drawn. -/
namespace L2.K1
open PySem PySem.Spec PyProof.Rows L2.Tr
section
variable {ps : List (Str × List Str)} {xs named : List Str} {a : Addr}
abbrev picksD : D := .seq true (([none, some 1, some 2] : List (Option Nat)).map manyD)
def chW (a : Addr) : WF Nat D := callW (fChange a) (consW (lf (atP 0)) (consW (lf (atP 1)) (consW (lf (bin2 dgD (atP 2) (kD (.leaf (.str "new"))))) nilW)))
def chL (cs : List (List Ent)) : List D := cs.map fun es => .seq true (es.map entD)
def turnsOf (kd : Kd) (m : Option Nat) : Nat := match kd with
  | .chg => m.getD 1
  | _ => 0
end
end L2.K1

/-! k08: statements, bent. -/
namespace L2.K1
open PySem PySem.Spec PyProof.Rows L2.Tr
section
variable {ps : List (Str × List Str)} {xs named : List Str} {a : Addr}
theorem ChOk.rev {es : List Ent} (h : ChOk ps xs es) : ChOk ps xs es.reverse := by
  obtain ⟨⟨⟨o1, o2, o3⟩, g2, g3⟩, h2⟩ := h
  refine ⟨⟨⟨?_, ?_, by rw [List.length_reverse]; exact o3⟩, ?_, fun e he => g3 e (List.mem_reverse.mp he)⟩, fun e he => h2 e (List.mem_reverse.mp he)⟩
  · rw [List.map_reverse, List.all_reverse]; exact o1
  · rw [List.map_reverse]; exact List.pairwise_reverse.mpr (o2.imp fun q => Ne.symm q)
  · rw [List.all_reverse]; exact g2
end
end L2.K1

/-! k08: the texts of an order. -/
namespace L2.K1
open PySem PySem.Spec PyProof.Rows L2.Tr
/-! k08: orders are looked at. -/
namespace L2.K1
open PySem PySem.Spec PyProof.Rows L2.Tr
section
variable {K : PySem.W.Frag} {C : Addr} {ps : List (Str × List Str)} {xs : List Str}
/-- parts of an order, with the names within -/
structure Prt (ps : List (Str × List Str)) (xs : List Str) (qs : List (Str × Str)) : Prop where
  r : ∀ q ∈ qs, rmpD (sD q.1) (sD "-") = some (sD q.2)
  s : qs.map (·.2) = [] ∨ qs.map (·.2) = [("number" : Str)] ∨ (∃ x vs, x ≠ ("number" : Str) ∧ (x, some vs) ∈ csOf ps xs ∧ (qs.map (·.2) = [x] ∨ qs.map (·.2) = [x, "number"]))
theorem Nm.of (h : Cols ps xs) {x : Str} (hx : x ∈ keysOf ps xs) : Nm x := by
  rcases List.mem_append.mp hx with q | q
  · obtain ⟨p, hp, rfl⟩ := List.mem_map.mp q
    exact (h.t p hp).n
  · exact h.f x q
theorem ByOk.prt (h : Cols ps xs) {bs : List Str} (hb : ByOk ps xs bs) : ∃ qs, bs = qs.map (·.1) ∧ Prt ps xs qs := by
  obtain ⟨c, n, rfl, hc, hn⟩ := hb
  have en : ∃ ns : List (Str × Str), n = ns.map (·.1) ∧ (∀ q ∈ ns, rmpD (sD q.1) (sD "-") = some (sD q.2)) ∧ (ns.map (·.2) = [] ∨ ns.map (·.2) = [("number" : Str)]) := by
    rcases hn with rfl | rfl | rfl
    · exact ⟨[], rfl, fun q hq => (by cases hq), .inl rfl⟩
    · refine ⟨[("number", "number")], rfl, fun q hq => ?_, .inr rfl⟩
      rw [List.mem_singleton.mp hq]; exact rmp_n1
    · refine ⟨[("-number", "number")], rfl, fun q hq => ?_, .inr rfl⟩
      rw [List.mem_singleton.mp hq]; exact rmp_n2
  obtain ⟨ns, rfl, hr, hs⟩ := en
  rcases hc with rfl | ⟨sg, x, vs, hsg, hx, rfl⟩
  · refine ⟨ns, rfl, hr, ?_⟩
    rcases hs with z | z
    · exact .inl z
    · exact .inr (.inl z)
  · obtain ⟨j, q1, q2⟩ := cs_at hx
    have nm := Nm.of h (List.mem_of_getElem? q1)
    refine ⟨(sg ++ x, x) :: ns, rfl, fun q hq => ?_, .inr (.inr ⟨x, vs, nm.n, hx, ?_⟩)⟩
    · rcases List.mem_cons.mp hq with rfl | z
      · exact rmp_sg hsg nm.w
      · exact hr q z
    · rw [List.map_cons]
      rcases hs with z | z
      · exact .inl (by rw [z])
      · exact .inr (by rw [z])
theorem comp_all {α : Type} {θ : D → L2.Tr.Env → Option L2.Tr.Env} {χ : L2.Tr.Env → Option Bool} {φ : L2.Tr.Env → Option D} {ρ : L2.Tr.Env} (f g : α → D) {cs : List α} (H : ∀ c ∈ cs, ∃ ρ1, θ (f c) ρ = some ρ1 ∧ χ ρ1 = some true ∧ φ ρ1 = some (g c)) : compF θ χ φ (cs.map f) ρ = some (cs.map g) := by
  have := comp_fm (θ := θ) (χ := χ) (φ := φ) (ρ := ρ) f (fun _ => true) g fun c hc => by
    obtain ⟨ρ1, a1, a2, a3⟩ := H c hc
    exact ⟨ρ1, a1, a2, fun _ => a3⟩
  rw [List.filter_eq_self.mpr fun _ _ => rfl] at this
  exact this
theorem andB2 {x y : Bool} {φ ψ : L2.Tr.Env → Option Bool} {ρ : L2.Tr.Env} (e1 : φ ρ = some x) (e2 : ψ ρ = some y) : andB φ ψ ρ = some (x && y) := by
  unfold andB
  rw [e1]
  cases x with
  | true => exact e2
  | false => rfl
theorem frzF_ {j : Nat} {Φ : L2.Tr.Env → Option Out} {ρ : L2.Tr.Env} {d : D} (h : ρ[j]? = some (.ow d)) : frzF j Φ ρ = Φ (ρ.set j (.pu d)) := by
  unfold frzF frzE
  rw [h]; rfl
theorem ord_ok (h : Cols ps xs) {qs : List (Str × Str)} (hp : Prt ps xs qs) (b : Bool) : fOrd K C [colV C ps xs, .seq b ((qs.map (·.1)).map sD)] = some (bD true) := by
  have hL : Lim = 5000 := rfl
  have hql : qs.length ≤ 2 := by
    have e : qs.length = (qs.map (·.2)).length := by rw [List.length_map]
    rcases hp.s with z | z | ⟨x, vs, _, _, z | z⟩ <;> rw [e, z] <;> first | decide | exact Nat.le_succ 1 | exact Nat.le_refl 2
  have emap : (qs.map (·.1)).map sD = qs.map fun q => sD q.1 := by rw [List.map_map]; rfl
  refine run_rt ?_
  show FOrd K C [.pu (colV C ps xs), .pu (.seq b ((qs.map (·.1)).map sD)), .un, .un, .un] = _
  rw [emap]
  have hk : ∀ ρ : L2.Tr.Env, atP 1 ρ = some (.seq b (qs.map fun q => sD q.1)) → seqsK K (atP 1) ρ = some (qs.map fun q => sD q.1) := fun ρ e => by
    unfold seqsK; rw [e]; rfl
  have hlen : (qs.map fun q => sD q.1).length ≤ Lim := by rw [List.length_map]; omega
  have e1 : app1 allD (consD (mapS (lcF [2] (seqsK K (atP 1)) (setF 2) yesF (isF isStr (atP 2)))) nilD) [.pu (colV C ps xs), .pu (.seq b (qs.map fun q => sD q.1)), .un, .un, .un] = some (bD true) := by
    have ec : lcF [2] (seqsK K (atP 1)) (setF 2) yesF (isF isStr (atP 2)) [.pu (colV C ps xs), .pu (.seq b (qs.map fun q => sD q.1)), .un, .un, .un] = some (qs.map fun _ => bD true) := by
      rw [lc_ (hk _ rfl) hlen]
      exact comp_all (fun q : Str × Str => sD q.1) (fun _ => bD true) fun q _ => ⟨[.pu (colV C ps xs), .pu (.seq b (qs.map fun q => sD q.1)), .pu (sD q.1), .un, .un], rfl, rfl, rfl⟩
    rw [app_1 (maps_ ec), all_map (fun _ : Str × Str => true) qs, List.all_eq_true.mpr fun _ _ => rfl]
  have e0 : (orB (notB (truF (app1 (fIsLK K) (consD (atP 1) nilD)))) (notB (truF (app1 allD (consD (mapS (lcF [2] (seqsK K (atP 1)) (setF 2) yesF (isF isStr (atP 2)))) nilD))))) [.pu (colV C ps xs), .pu (.seq b (qs.map fun q => sD q.1)), .un, .un, .un] = some false := by
    rw [orB_f (notB_ (b := true) (truB ?_))]
    · exact notB_ (b := true) (truB e1)
    · rw [app_1 (d := .seq b (qs.map fun q => sD q.1)) rfl]; rfl
  refine (seq_if_f e0).trans ?_
  have e2 : lcF [2] (seqsK K (atP 1)) (setF 2) yesF (bin2 rmpD (atP 2) (kD (.leaf (.str "-")))) [.pu (colV C ps xs), .pu (.seq b (qs.map fun q => sD q.1)), .un, .un, .un] = some ((qs.map (·.2)).map sD) := by
    rw [lc_ (hk _ rfl) hlen]
    rw [List.map_map]
    refine comp_all (fun q : Str × Str => sD q.1) (fun q => sD q.2) fun q hq => ⟨[.pu (colV C ps xs), .pu (.seq b (qs.map fun q => sD q.1)), .pu (sD q.1), .un, .un], rfl, rfl, ?_⟩
    rw [bin_2 (d := sD q.1) (e := sD "-") rfl rfl, hp.r q hq]
  refine (seq_nx (show _ = some (Out.nx [.pu (colV C ps xs), .pu (.seq b (qs.map fun q => sD q.1)), .un, .ow (.seq true ((qs.map (·.2)).map sD)), .un]) from ?_)).trans ?_
  · unfold asgO
    rw [e2]; rfl
  -- the last part, once no number is among the names
  have tail : ∀ ns : List Str, ns.length ≤ 1 → (∀ x ∈ ns, ∃ vs, (x, some vs) ∈ csOf ps xs) → (seqF (frzF 3 (ifS (notB (truF (app1 allD (consD (mapS (lcF [4] (seqsF (atP 3)) (setF 4) yesF (andF (bin2 (conD false C (fIn C)) (atP 4) (atP 0)) (bin2 (isN true) (metF C "told_values" (fTV C) (atP 0) (consD (atP 4) nilD)) (kD (.leaf .non)))))) nilD)))) (retF (kD (.leaf (.bl false)))) skipF)) (retF (bin2 (scD false) (lenSF (atV 3)) (app1 lenA (consD (atV 3) nilD))))) [.pu (colV C ps xs), .pu (.seq b (qs.map fun q => sD q.1)), .un, .ow (.seq true (ns.map sD)), .un] = some (.rt (bD true)) := fun ns h1 hin => by
    refine (seq_nx (show _ = some (Out.nx [.pu (colV C ps xs), .pu (.seq b (qs.map fun q => sD q.1)), .un, .pu (.seq true (ns.map sD)), .un]) from ?_)).trans ?_
    · rw [frzF_ (d := .seq true (ns.map sD)) rfl]
      show ifS _ _ _ [.pu (colV C ps xs), .pu (.seq b (qs.map fun q => sD q.1)), .un, .pu (.seq true (ns.map sD)), .un] = _
      have if0 : ∀ {t : L2.Tr.Env → Option Bool} {Φ : L2.Tr.Env → Option Out} {ρ : L2.Tr.Env}, t ρ = some false → ifS t Φ skipF ρ = some (.nx ρ) := fun {t Φ ρ} e => by
        unfold ifS; rw [e]; rfl
      refine if0 (notB_ (b := true) (truB ?_))
      have ec : lcF [4] (seqsF (atP 3)) (setF 4) yesF (andF (bin2 (conD false C (fIn C)) (atP 4) (atP 0)) (bin2 (isN true) (metF C "told_values" (fTV C) (atP 0) (consD (atP 4) nilD)) (kD (.leaf .non)))) [.pu (colV C ps xs), .pu (.seq b (qs.map fun q => sD q.1)), .un, .pu (.seq true (ns.map sD)), .un] = some (ns.map fun _ => bD true) := by
        rw [lc_ (ds := ns.map sD) rfl (by rw [List.length_map]; omega)]
        refine comp_all (fun x : Str => sD x) (fun _ => bD true) fun x hx => ⟨[.pu (colV C ps xs), .pu (.seq b (qs.map fun q => sD q.1)), .un, .pu (.seq true (ns.map sD)), .pu (sD x)], rfl, rfl, ?_⟩
        obtain ⟨vs, hv⟩ := hin x hx
        obtain ⟨j, q1, q2⟩ := cs_at hv
        have ein : bin2 (conD false C (fIn C)) (atP 4) (atP 0) [.pu (colV C ps xs), .pu (.seq b (qs.map fun q => sD q.1)), .un, .pu (.seq true (ns.map sD)), .pu (sD x)] = some (bD true) := by
          refine (bin_2 (d := sD x) (e := colV C ps xs) rfl rfl).trans ?_
          have e9 := in_x (C := C) (ps := ps) (xs := xs) (x := x) .u
          rw [decide_eq_true (List.mem_of_getElem? q1)] at e9
          show (if C = C then ((fIn C [colV C ps xs, sD x]).bind asB).map fun b => bD (false != b) else none) = _
          rw [if_pos rfl, e9]; rfl
        rw [and_t ein, bin_2 (d := vD (some vs)) (e := .leaf .non) (met_tv h .u q1 q2 rfl rfl) rfl]; rfl
      rw [app_1 (maps_ ec), all_map (fun _ : Str => true) ns, List.all_eq_true.mpr fun _ _ => rfl]
    · refine ret_f ?_
      match ns, h1 with
      | [], _ => kernel_rfl
      | [x], _ => 
        rw [bin_2 (d := iD 1) (e := iD 1) rfl rfl]; rfl
  have tst : ∀ (ys : List Str) (last : Str), (bin2 ixD (atV 3) (negF (kD (.leaf (.int 1))))) [.pu (colV C ps xs), .pu (.seq b (qs.map fun q => sD q.1)), .un, .ow (.seq true (ys.map sD)), .un] = some (sD last) → ys ≠ [] → (andB (truF (atV 3)) (asBF (bin2 (scD false) (bin2 ixD (atV 3) (negF (kD (.leaf (.int 1))))) (kD (.leaf (.str "number")))))) [.pu (colV C ps xs), .pu (.seq b (qs.map fun q => sD q.1)), .un, .ow (.seq true (ys.map sD)), .un] = some (decide (last = "number")) := fun ys last e hne => by
    have e1 : asBF (bin2 (scD false) (bin2 ixD (atV 3) (negF (kD (.leaf (.int 1))))) (kD (.leaf (.str "number")))) [.pu (colV C ps xs), .pu (.seq b (qs.map fun q => sD q.1)), .un, .ow (.seq true (ys.map sD)), .un] = some (decide (last = "number")) := asB_ (by
      rw [bin_2 (d := sD last) (e := sD "number") e rfl]
      show some (bD (xor false (decide (V.str last = V.str "number")))) = _
      rw [Bool.false_xor]
      congr 2
      exact decide_eq_decide.mpr ⟨fun z => V.str.inj z, fun z => by rw [z]⟩)
    have e2 : truF (atV 3) [.pu (colV C ps xs), .pu (.seq b (qs.map fun q => sD q.1)), .un, .ow (.seq true (ys.map sD)), .un] = some true := by
      cases ys with
      | nil => exact absurd rfl hne
      | cons y ys => rfl
    rw [andB2 e2 e1, Bool.true_and]
  have nxt : ∀ {t : L2.Tr.Env → Option Bool} {Φ Ψ : L2.Tr.Env → Option Out} {ρ ρ2 : L2.Tr.Env} {r : Option Out}, t ρ = some true → Φ ρ = some (.nx ρ2) → Ψ ρ2 = r → seqF (ifS t Φ skipF) Ψ ρ = r := fun {t Φ Ψ ρ ρ2 r} e1 e2 e3 => by
    refine (seq_nx (show ifS t Φ skipF ρ = some (.nx ρ2) from ?_)).trans e3
    unfold ifS; rw [e1]; exact e2
  rcases hp.s with z | z | ⟨x, vs, hn, hx, z | z⟩
  · rw [z]
    exact (seq_if_f rfl).trans (tail [] (by decide) fun x hx => by cases hx)
  · rw [z]
    exact nxt ((tst ["number"] "number" rfl (by decide)).trans (by decide +kernel)) (ρ2 := [.pu (colV C ps xs), .pu (.seq b (qs.map fun q => sD q.1)), .un, .ow (.seq true (([] : List Str).map sD)), .un]) rfl (tail [] (by decide) fun x hx => by cases hx)
  · rw [z]
    exact (seq_if_f ((tst [x] x rfl (by exact fun z => by cases z)).trans (by rw [decide_eq_false hn]))).trans (tail [x] (Nat.le_refl 1) fun y hy => by rw [List.mem_singleton.mp hy]; exact ⟨vs, hx⟩)
  · rw [z]
    exact nxt ((tst [x, "number"] "number" rfl (by exact fun z => by cases z)).trans (by decide +kernel)) (ρ2 := [.pu (colV C ps xs), .pu (.seq b (qs.map fun q => sD q.1)), .un, .ow (.seq true (([x] : List Str).map sD)), .un]) rfl (tail [x] (Nat.le_refl 1) fun y hy => by rw [List.mem_singleton.mp hy]; exact ⟨vs, hx⟩)
/-- an order by the module's empty tuple -/
theorem ord_nil (h : Cols ps xs) {aB : Addr} (kB : L2.Tr.KT K aB []) : fOrd K C [colV C ps xs, .leaf (.ref aB)] = some (bD true) := by
  refine run_rt ?_
  have hk : ktup K aB = some [] := ktup_of kB
  show FOrd K C [.pu (colV C ps xs), .pu (.leaf (.ref aB)), .un, .un, .un] = _
  have hs : ∀ ρ : L2.Tr.Env, atP 1 ρ = some (.leaf (.ref aB)) → seqsK K (atP 1) ρ = some [] := fun ρ e => by
    unfold seqsK
    rw [e, Option.bind_some]
    show (ktup K aB).map _ = _
    rw [hk]; rfl
  have e0 : (orB (notB (truF (app1 (fIsLK K) (consD (atP 1) nilD)))) (notB (truF (app1 allD (consD (mapS (lcF [2] (seqsK K (atP 1)) (setF 2) yesF (isF isStr (atP 2)))) nilD))))) [.pu (colV C ps xs), .pu (.leaf (.ref aB)), .un, .un, .un] = some false := by
    rw [orB_f (notB_ (b := true) (truB ?_))]
    · refine notB_ (b := true) (truB ?_)
      rw [app_1 (maps_ (lc_ (hs _ rfl) (Nat.zero_le _)))]; rfl
    · rw [app_1 (d := .leaf (.ref aB)) rfl]
      refine run_rt (ret_f ?_)
      show (isSeqK K (.leaf (.ref aB))).map bD = _
      show ((ktup K aB).map fun _ => true).map bD = _
      rw [hk]; rfl
  refine (seq_if_f e0).trans ?_
  have e2 : lcF [2] (seqsK K (atP 1)) (setF 2) yesF (bin2 rmpD (atP 2) (kD (.leaf (.str "-")))) [.pu (colV C ps xs), .pu (.leaf (.ref aB)), .un, .un, .un] = some [] := lc_ (hs _ rfl) (Nat.zero_le _)
  refine (seq_nx (show _ = some (Out.nx [.pu (colV C ps xs), .pu (.leaf (.ref aB)), .un, .ow (.seq true []), .un]) from ?_)).trans ?_
  · unfold asgO
    rw [e2]; rfl
  refine (seq_if_f rfl).trans ?_
  refine (seq_nx (show _ = some (Out.nx [.pu (colV C ps xs), .pu (.leaf (.ref aB)), .un, .pu (.seq true []), .un]) from ?_)).trans (ret_f rfl)
  rw [frzF_ (d := .seq true []) rfl]
  rfl
end
end L2.K1

/-! k08: what the making of statements looks at. -/
namespace L2.K1
open PySem PySem.Spec PyProof.Rows L2.Tr
section
variable {K : PySem.W.Frag} {C C3 aW3 aB : Addr} {ps : List (Str × List Str)} {xs named : List Str}
def wayS : List V := [.str "words", .str "values", .str "rows"]
def whX (C C3 : Addr) (ps : List (Str × List Str)) (xs : List Str) : Option (Bool × Lk) → D
  | none => .leaf .non
  | some (b, l) => .seq false [sD (whS b), lkV C C3 ps xs l]
end
end L2.K1

/-! k08: rows and changes looked at and copied. -/
namespace L2.K1
open PySem PySem.Spec PyProof.Rows L2.Tr
section
variable {K : PySem.W.Frag} {C C3 : Addr} {ps : List (Str × List Str)} {xs named : List Str}
/-! k08: statements made. -/
namespace L2.K1
open PySem PySem.Spec PyProof.Rows L2.Tr
section
variable {K : PySem.W.Frag} {C C3 aW3 aB CP CD CH : Addr} {ps : List (Str × List Str)} {xs named : List Str}
section
variable {v1 v2 v3 v4 v5 v6 v7 v8 v9 : D}
theorem q1 : putS [] [] "kind" v1 = ((["kind"] : List Str), [v1]) := by kernel_rfl
theorem q2 : putS ["kind"] [v1] "columns" v2 = ((["kind", "columns"] : List Str), [v1, v2]) := by kernel_rfl
theorem p3 : putS ["kind", "columns"] [v1, v2] "row" v3 = ((["kind", "columns", "row"] : List Str), [v1, v2, v3]) := by kernel_rfl
theorem p4 : putS ["kind", "columns", "row"] [v1, v2, v3] "when" v4 = ((["kind", "columns", "row", "when"] : List Str), [v1, v2, v3, v4]) := by kernel_rfl
theorem p5 : putS ["kind", "columns", "row", "when"] [v1, v2, v3, v4] "must" v5 = ((["kind", "columns", "row", "when", "must"] : List Str), [v1, v2, v3, v4, v5]) := by kernel_rfl
theorem p6 : putS ["kind", "columns", "row", "when", "must"] [v1, v2, v3, v4, v5] "how" v6 = ((["kind", "columns", "row", "when", "must", "how"] : List Str), [v1, v2, v3, v4, v5, v6]) := by kernel_rfl
theorem d3 : putS ["kind", "columns"] [v1, v2] "look" v3 = ((["kind", "columns", "look"] : List Str), [v1, v2, v3]) := by kernel_rfl
theorem d4 : putS ["kind", "columns", "look"] [v1, v2, v3] "most" v4 = ((["kind", "columns", "look", "most"] : List Str), [v1, v2, v3, v4]) := by kernel_rfl
theorem d5 : putS ["kind", "columns", "look", "most"] [v1, v2, v3, v4] "by" v5 = ((["kind", "columns", "look", "most", "by"] : List Str), [v1, v2, v3, v4, v5]) := by kernel_rfl
theorem d6 : putS ["kind", "columns", "look", "most", "by"] [v1, v2, v3, v4, v5] "when" v6 = ((["kind", "columns", "look", "most", "by", "when"] : List Str), [v1, v2, v3, v4, v5, v6]) := by kernel_rfl
theorem d7 : putS ["kind", "columns", "look", "most", "by", "when"] [v1, v2, v3, v4, v5, v6] "must" v7 = ((["kind", "columns", "look", "most", "by", "when", "must"] : List Str), [v1, v2, v3, v4, v5, v6, v7]) := by kernel_rfl
theorem c4 : putS ["kind", "columns", "look"] [v1, v2, v3] "changes" v4 = ((["kind", "columns", "look", "changes"] : List Str), [v1, v2, v3, v4]) := by kernel_rfl
end
def putV (C C3 CP : Addr) (ps : List (Str × List Str)) (xs : List Str) (cs : List Cell) (wh : Option (Bool × Lk)) (how : Str) : D := .obj CP ["kind", "columns", "row", "when", "must", "how"] [sD "put", colV C ps xs, .seq false (cs.map ceD), whX C C3 ps xs wh, bD false, sD how]
def dropV (C C3 CD : Addr) (ps : List (Str × List Str)) (xs : List Str) (l : Lk) (m by_ : D) (wh : Option (Bool × Lk)) (mu : Bool) (how : Str) : D := .obj CD ["kind", "columns", "look", "most", "by", "when", "must", "how"] [sD "drop", colV C ps xs, lkV C C3 ps xs l, m, by_, whX C C3 ps xs wh, bD mu, sD how]
def chgV (C C3 CH : Addr) (ps : List (Str × List Str)) (xs : List Str) (l : Lk) (c m by_ : D) (wh : Option (Bool × Lk)) (mu : Bool) (how : Str) : D := .obj CH ["kind", "columns", "look", "changes", "most", "by", "when", "must", "how"] [sD "change", colV C ps xs, lkV C C3 ps xs l, c, m, by_, whX C C3 ps xs wh, bD mu, sD how]
end
end L2.K1

/-! k08: Drop and Change made. -/
namespace L2.K1
open PySem PySem.Spec PyProof.Rows L2.Tr
section
variable {K : PySem.W.Frag} {C C3 aW3 aB CP CD CH : Addr} {ps : List (Str × List Str)} {xs named : List Str}
/-! k08: a drawn statement made. -/
namespace L2.K1
open PySem PySem.Spec PyProof.Rows L2.Tr
section
variable {K : PySem.W.Frag} {C C3 aW3 aB CP CD CH : Addr} {ps : List (Str × List Str)} {xs named : List Str}
/-! k08: parts of drawn statements compared; by number. -/
namespace L2.K1
open PySem PySem.Spec PyProof.Rows L2.Tr
section
variable {K : PySem.W.Frag} {C C3 aW3 : Addr} {ps : List (Str × List Str)} {xs named : List Str} {a : Addr}
/-! cells -/
def ceP : Cell → PyData
  | .mom => .tuple [.str "moment"]
  | .wd w => .str w
def CeW (c : Cell) : Prop := match c with
  | .mom => True
  | .wd w => isW w = true
end
end L2.K1

/-! k08: by number. -/
namespace L2.K1
open PySem PySem.Spec PyProof.Rows L2.Tr
section
variable {K : PySem.W.Frag} {C C3 aW3 : Addr} {ps : List (Str × List Str)} {xs named : List Str} {a : Addr}
/-! k08: lists of changes compared. -/
namespace L2.K1
open PySem PySem.Spec PyProof.Rows L2.Tr
def chsE : List (List Ent) → List (List Ent) → Bool
  | [], [] => true
  | c :: cs, d :: ds => eqB c d && chsE cs ds
  | _, _ => false
/-! k08: whether two drawn statements are alike. -/
namespace L2.K1
open PySem PySem.Spec PyProof.Rows L2.Tr
section
variable {K : PySem.W.Frag} {ps : List (Str × List Str)} {xs named st : List Str} {z0 z1 : Str}
abbrev lE (ps : List (Str × List Str)) (xs named : List Str) (s t : Sm) (s3 s4 s5 s6 : Sl) : L2.Tr.Env := [.pu (wD ps xs named), .pu (smD s), .pu (smD t), s3, s4, s5, s6]
abbrev lTest : L2.Tr.Env → Option Bool := asBF (bin2 (eqP true) (bin2 dgD (atP 1) (atP 3)) (bin2 dgD (atP 2) (atP 3)))
end
end L2.K1

/-! k08: whether two drawn statements are alike. -/
namespace L2.K1
open PySem PySem.Spec PyProof.Rows L2.Tr
section
variable {K : PySem.W.Frag} {ps : List (Str × List Str)} {xs named st : List Str} {z0 z1 : Str} {l m : Lk}
def whE (ps : List (Str × List Str)) (xs named : List Str) (z0 z1 : Str) (st : List Str) : Option (Bool × Lk) → Option (Bool × Lk) → Bool
  | none, none => true
  | some (b, l), some (c, m) => decide (b = c) && lkE ps xs named z0 z1 st l m
  | _, _ => false
/-! k08: what == of made statements looks at, part by part. -/
namespace L2.K1
open PySem PySem.Spec PyProof.Rows L2.Tr
section
variable {K : PySem.W.Frag} {C C3 aW3 aB aN aW CP CD CH : Addr} {ps : List (Str × List Str)} {xs named st : List Str} {z0 z1 : Str} {l m : Lk}
/-! one part with another -/
noncomputable abbrev qIn (C3 : Addr) (gEL : List D → Option D) : D → D → Option Bool := orQ qP (gdq (orQ (qO C3 gEL) qD))
noncomputable abbrev qEl (C C3 : Addr) (gE gEL : List D → Option D) : D → D → Option Bool := (orQ qP (orQ qN (gdq (orQ (orQ (qO C gE) (qO C3 gEL)) (orQ (orQ qD qDT) (qT (qIn C3 gEL)))))))
noncomputable abbrev qE (K : PySem.W.Frag) (C C3 aN aW : Addr) : D → D → Option Bool := qEl C C3 (fEq C) (gLEK K C C3 aN aW)
section
variable (T : Wd ps xs named z0 z1 st) (kW : L2.Tr.KT K aW oth) (kN : L2.Tr.KT K aN nums)
include T kW kN
end
end
end L2.K1

/-! k08: made statements compared. -/
namespace L2.K1
open PySem PySem.Spec PyProof.Rows L2.Tr
section
variable {K : PySem.W.Frag} {C C3 aW3 aB aN aW CP CD CH : Addr} {ps : List (Str × List Str)} {xs named st : List Str} {z0 z1 : Str} {l m : Lk} {LP LD LC : List Addr}
/-! all parts -/
abbrev pNs : List Str := ["kind", "columns", "row", "when", "must", "how"]
abbrev dNs : List Str := ["kind", "columns", "look", "most", "by", "when", "must", "how"]
abbrev cNs : List Str := ["kind", "columns", "look", "changes", "most", "by", "when", "must", "how"]
section
variable {v1 v2 v3 v4 v5 v6 v7 v8 v9 w1 w2 w3 w4 w5 w6 w7 w8 w9 : D}
noncomputable abbrev gPE (K : PySem.W.Frag) (C C3 aN aW CP : Addr) (L : List Addr) : List D → Option D := fPEq C C3 CP L (gLEK K C C3 aN aW)
noncomputable abbrev gDE (K : PySem.W.Frag) (C C3 aN aW CD : Addr) (L : List Addr) : List D → Option D := fDEq C C3 CD L (gLEK K C C3 aN aW)
noncomputable abbrev gCE (K : PySem.W.Frag) (C C3 aN aW CH : Addr) (L : List Addr) : List D → Option D := fCEq C C3 CH L (gLEK K C C3 aN aW)
/-! k08: == and != of made statements. -/
namespace L2.K1
open PySem PySem.Spec PyProof.Rows L2.Tr
structure Cs (C C3 CP CD CH : Addr) (LP LD LC : List Addr) : Prop where
  hc : C3 ≠ C
  pd : CP ≠ CD
  ph : CP ≠ CH
  dh : CD ≠ CH
  p3 : C3 ≠ CP
  d3 : C3 ≠ CD
  h3 : C3 ≠ CH
  lp : CD ∈ LP ∧ CH ∈ LP ∧ C3 ∈ LP
  ld : CP ∈ LD ∧ CH ∈ LD ∧ C3 ∈ LD
  lc : CP ∈ LC ∧ CD ∈ LC ∧ C3 ∈ LC
section
variable {K : PySem.W.Frag} {C C3 aW3 aB aN aW CP CD CH : Addr} {ps : List (Str × List Str)} {xs named st : List Str} {z0 z1 : Str} {l m : Lk} {LP LD LC : List Addr}
noncomputable abbrev eqS (K : PySem.W.Frag) (C C3 aN aW CP CD CH : Addr) (LP LD LC : List Addr) (neg : Bool) : D → D → Option D := fun x y => ((eqOX LP neg CP (gPE K C C3 aN aW CP LP)) x y).or (((eqOX LD neg CD (gDE K C C3 aN aW CD LD)) x y).or ((eqOX LC neg CH (gCE K C C3 aN aW CH LC)) x y))
/-! k08: told and by_number of made statements. -/
namespace L2.K1
open PySem PySem.Spec PyProof.Rows L2.Tr
section
variable {K : PySem.W.Frag} {C C3 aW3 aB aN aW CP CD CH : Addr} {ps : List (Str × List Str)} {xs named st : List Str} {z0 z1 : Str} {l m : Lk} {LP LD LC : List Addr}
/-! k08: what a statement shows. -/
namespace L2.K1
open PySem PySem.Spec PyProof.Rows L2.Tr
section
variable {K : PySem.W.Frag} {C C3 aW3 aB aN aW CP CD CH a : Addr} {ps : List (Str × List Str)} {xs named st : List Str} {z0 z1 : Str} {l m : Lk} {LP LD LC : List Addr}
abbrev shE (C C3 CP CD CH : Addr) (ps : List (Str × List Str)) (xs named : List Str) (s : Sm) (s4 s5 s6 s7 : Sl) : L2.Tr.Env := [.pu (wD ps xs named), .pu (colV C ps xs), .pu (smD s), .pu (madeV C C3 CP CD CH ps xs s), s4, s5, s6, s7]
noncomputable abbrev gSh (a : Addr) (K : PySem.W.Frag) (C C3 aW3 aN aW CP CD CH : Addr) (LP LD LC : List Addr) : List D → Nat → (D → Nat → Prop) → Prop := fShows a C CP CD CH LP LD LC (gPT K C C3 aW3 CP) (gPB K C C3 aW3 CP) (gDT K C C3 aW3 CD) (gDB K C C3 aW3 CD) (gCT K C C3 aW3 CH) (gCB K C C3 aW3 CH) (gPE K C C3 aN aW CP LP) (gDE K C C3 aN aW CD LD) (gCE K C C3 aN aW CH LC) (smN 6) (gMade K C C3 aW3 CP CD CH) (fEvery C3)
noncomputable abbrev WBody (a : Addr) (K : PySem.W.Frag) (C C3 aW3 aN aW CP CD CH : Addr) (LP LD LC : List Addr) : WF Nat Ou := (seqW (lfS (asgF (told3 K C C3 aW3 CP CD CH 3 5) (setF 6))) (ifSW (orW (lf (notB (truF (app1 (smN 6) (consD (fld3 CP CD CH "how" 6) (consD (atP 5) nilD)))))) (asW (b2W (eqS K C C3 aN aW CP CD CH LP LD LC true) (lf (atP 6)) (callW (detW (gMade K C C3 aW3 CP CD CH)) (consW (lf (atP 1)) (consW (callW (fWith a) (consW (lf (atP 2)) (consW (lf (kD (.leaf (.str "how")))) (consW (lf (atP 5)) nilW)))) nilW)))))) (lfS (retF (kD (.leaf (.bl false))))) (lfS skipF)))
section
variable (T : Wd ps xs named z0 z1 st) (k3 : L2.Tr.KT K aW3 wayS) (kW : L2.Tr.KT K aW oth) (kN : L2.Tr.KT K aN nums) (cs : Cs C C3 CP CD CH LP LD LC)
include T k3 kW kN cs
end
end
end L2.K1

namespace L2.K1
open PySem PySem.Spec PyProof.Rows L2.Tr
def shLF : List (List Int × Int) := [([1, 1, 1], 0)]
def shDF : D := .seq true (shLF.map fun p => .seq false [cntD p.1, .leaf (.int p.2)])
/-! k08: the pieces of a turn. -/
namespace L2.K1
open PySem PySem.Spec PyProof.Rows L2.Tr
noncomputable section
def MAK (K : PySem.W.Frag) (C C3 aW3 aN aW aB CP CD CH : Addr) (LP LD LC : List Addr) : L2.Tr.Env → Option Out := (asgF (mapS (lcF [8] (seqsF (atP 5)) (setF 8) yesF (app1 (gMade K C C3 aW3 CP CD CH) (consD (atP 4) (consD (atP 8) nilD))))) (setF 7))
abbrev TH8 : D → L2.Tr.Env → Option L2.Tr.Env := (tupT 2 (consT (setF 8) (consT (setF 9) nilT)))
abbrev TH10 : D → L2.Tr.Env → Option L2.Tr.Env := (tupT 2 (consT (setF 10) (consT (setF 11) nilT)))
def INB (K : PySem.W.Frag) (C C3 aW3 aN aW aB CP CD CH : Addr) (LP LD LC : List Addr) : L2.Tr.Env → Option Out := (seqF (asgF (app1 (fLike (fFinds (fHo 4))) (consD (atP 3) (consD (atP 8) (consD (atP 10) nilD)))) (setF 12)) (ifS (notB (truF (app1 (smN 6) (consD (mapS (lstDisp (consD (bin2 (fun x y => ((eqOX LP false CP (gPE K C C3 aN aW CP LP)) x y).or (((eqOX LD false CD (gDE K C C3 aN aW CD LD)) x y).or ((eqOX LC false CH (gCE K C C3 aN aW CH LC)) x y))) (atP 9) (atP 11)) (consD (bin2 (fun x y => ((eqOX LP true CP (gPE K C C3 aN aW CP LP)) x y).or (((eqOX LD true CD (gDE K C C3 aN aW CD LD)) x y).or ((eqOX LC true CH (gCE K C C3 aN aW CH LC)) x y))) (atP 9) (atP 11)) nilD)))) (consD (mapS (lstDisp (consD (atP 12) (consD (notF (atP 12)) nilD)))) nilD))))) (retF (kD (.leaf (.bl false)))) skipF))
def SHO (K : PySem.W.Frag) (C C3 aW3 aN aW aB CP CD CH : Addr) (LP LD LC : List Addr) : WF Nat Ou := (ifSW (notW (truW (callW (gSh C K C C3 aW3 aN aW CP CD CH LP LD LC) (consW (lf (atP 3)) (consW (lf (atP 4)) (consW (lf (atP 8)) (consW (lf (atP 9)) nilW))))))) (lfS (retF (kD (.leaf (.bl false))))) (lfS skipF))
def OUB (K : PySem.W.Frag) (C C3 aW3 aN aW aB CP CD CH : Addr) (LP LD LC : List Addr) : WF Nat Ou := seqW (SHO K C C3 aW3 aN aW aB CP CD CH LP LD LC) (lfS (forF (zipF (atP 5) (atP 7)) TH10 (INB K C C3 aW3 aN aW aB CP CD CH LP LD LC)))
def DRP (K : PySem.W.Frag) (C C3 aW3 aN aW aB CP CD CH : Addr) (LP LD LC : List Addr) : L2.Tr.Env → Option Out := (ifS (asBF (bin2 (eqOD false CD (gDE K C C3 aN aW CD LD)) (app1 (mkD CD fun ds => (fDInit K C C3 aW3 CD) (ds ++ [.non, .ref aB, .non, .bl false, .str "words"].map D.leaf)) (consD (app1 (fEvery C3) (consD (atP 13) nilD)) nilD)) (app1 (mkD CD fun ds => (fDInit K C C3 aW3 CD) (ds ++ [.non, .ref aB, .non, .bl false, .str "words"].map D.leaf)) (consD (app1 (fEvery C3) (consD (atP 4) nilD)) nilD)))) (retF (kD (.leaf (.bl false)))) skipF)
def EN1 (K : PySem.W.Frag) (C C3 aW3 aN aW aB CP CD CH : Addr) (LP LD LC : List Addr) : L2.Tr.Env → Option Out := (asgF (app1 (mkD CH fun ds => (fCInit K C C3 aW3 CH) (ds ++ [.non, .bl false, .str "words"].map D.leaf)) (kwF 2 1 (consD (app1 (fEvery C3) (consD (atP 4) nilD)) (consD (mapS (lstDisp (consD (app1 dctD (consD (atV 14) nilD)) nilD))) nilD)) (consD (mapS (lstDisp (consD (kD (.leaf (.str "number"))) nilD))) nilD))) (setF 9))
def EN2 (K : PySem.W.Frag) (C C3 aW3 aN aW aB CP CD CH : Addr) (LP LD LC : List Addr) : L2.Tr.Env → Option Out := (asgF (tmpD 14 (tmpN 15 (app1 (mkD CH fun ds => (fCInit K C C3 aW3 CH) (ds ++ [.non, .bl false, .str "words"].map D.leaf)) (kwF 2 1 (consD (app1 (fEvery C3) (consD (atP 4) nilD)) (consD (mapS (lstDisp (consD (atP 14) nilD))) nilD)) (consD (atP 15) nilD))))) (setF 10))
def EN3 (K : PySem.W.Frag) (C C3 aW3 aN aW aB CP CD CH : Addr) (LP LD LC : List Addr) : L2.Tr.Env → Option Out := (seqF (clrF 14) (seqF (growF 15 (kD (.leaf (.str "more"))) fun xs d => xs ++ [d]) (ifS (asBF (bin2 (eqOD true CH (gCE K C C3 aN aW CH LC)) (atP 9) (atP 10))) (retF (kD (.leaf (.bl false)))) skipF)))
def TBd (j : Addr × Addr) (K : PySem.W.Frag) (C C3 aW3 aN aW aB CP CD CH : Addr) (LP LD LC : List Addr) : WF Nat Ou := (seqW (setW 3 (svP (callW (fWorld j.1) (consW (lf (atP 1)) (consW (lf (mapS (lstDisp (consD (tupDisp (consD (mapS (lstDisp (consD (kD (.leaf (.int 2))) (consD (kD (.leaf (.int 2))) nilD)))) (consD (kD (.leaf (.int 0))) nilD))) (consD (tupDisp (consD (mapS (lstDisp (consD (kD (.leaf (.int 2))) nilD))) (consD (kD (.leaf (.int 1))) nilD))) (consD (tupDisp (consD (mapS (lstDisp nilD)) (consD (kD (.leaf (.int 2))) nilD))) (consD (tupDisp (consD (mapS (lstDisp (consD (kD (.leaf (.int 3))) nilD))) (consD (kD (.leaf (.int 0))) nilD))) nilD))))))) nilW))))) (seqW (lfS (asgF (app1 (fColsOf C (fInit C)) (consD (atP 3) nilD)) (setF 4))) (seqW (setW 5 (svP (lcW [6] (lf (rngF (kD (.leaf (.int 3))))) (setF 6) yesW (callW (fStat j.1 (gLkN 3)) (consW (lf (atP 1)) (consW (lf (atP 3)) (consW (callW (fWide j.1) (consW (lf (mapS (lstDisp (consD (kD (.leaf .non)) (consD (kD (.leaf (.int 1))) (consD (kD (.leaf (.int 2))) nilD)))))) nilW)) nilW))))))) (seqW (setW 5 (svP (b2W addD (lf (atP 5)) (lstW (consW (callW (fBent j.1) (consW (lf (atP 1)) (consW (lf (atP 3)) (consW (lf (bin2 ixD (atP 5) (kD (.leaf (.int 0))))) nilW)))) (consW (callW (fBent j.1) (consW (lf (atP 1)) (consW (lf (atP 3)) (consW (lf (bin2 ixD (atP 5) (kD (.leaf (.int 1))))) nilW)))) nilW)))))) (seqW (lfS (MAK K C C3 aW3 aN aW aB CP CD CH LP LD LC)) (seqW (forW (lf (zipF (atP 5) (atP 7))) TH8 (OUB K C C3 aW3 aN aW aB CP CD CH LP LD LC)) (seqW (setW 13 (svP (callW (detW (fColsOf C (fInit C))) (consW (callW (fWorld j.1) (consW (lf (atP 1)) (consW (lf (mapS (lstDisp (consD (tupDisp (consD (mapS (lstDisp (consD (kD (.leaf (.int 1))) (consD (kD (.leaf (.int 1))) (consD (kD (.leaf (.int 1))) nilD))))) (consD (kD (.leaf (.int 0))) nilD))) nilD)))) nilW))) nilW)))) (seqW (lfS (DRP K C C3 aW3 aN aW aB CP CD CH LP LD LC)) (seqW (par2W 14 15 (svO (ap1W dctP (consW (callW (fChange j.1) (consW (lf (atP 1)) (consW (lf (atP 3)) (consW (lf (mapS (lstDisp nilD))) nilW)))) nilW))) (svO (lf (mapS (lstDisp (consD (kD (.leaf (.str "number"))) nilD)))))) (lfS (seqF (EN1 K C C3 aW3 aN aW aB CP CD CH LP LD LC) (seqF (EN2 K C C3 aW3 aN aW aB CP CD CH LP LD LC) (EN3 K C C3 aW3 aN aW aB CP CD CH LP LD LC)))))))))))))
abbrev gLaw (j : Addr × Addr) (K : PySem.W.Frag) (C C3 aW3 aN aW aB CP CD CH : Addr) (LP LD LC : List Addr) : WF Nat Ou := FLaw j CP CD CH aB LP LD LC (fun a => fStat a (gLkN 3)) (gSh C K C C3 aW3 aN aW CP CD CH LP LD LC) (fColsOf C (fInit C)) (gMade K C C3 aW3 CP CD CH) (fLike (fFinds (fHo 4))) (smN 6) (fEvery C3) (gPE K C C3 aN aW CP LP) (gDE K C C3 aN aW CD LD) (gCE K C C3 aN aW CH LC) (fDInit K C C3 aW3 CD) (fCInit K C C3 aW3 CH)
end
end L2.K1

/-! k08: the pieces of a turn hold. -/
namespace L2.K1
open PySem PySem.Spec PyProof.Rows L2.Tr
section
variable {K : PySem.W.Frag} {C C3 aW3 aN aW aB CP CD CH : Addr} {ps : List (Str × List Str)} {xs named st : List Str} {z0 z1 : Str} {l m : Lk} {LP LD LC : List Addr}
abbrev E16 (s0 s1 s2 s3 s4 s5 s6 s7 s8 s9 s10 s11 s12 s13 s14 s15 : Sl) : L2.Tr.Env := [s0, s1, s2, s3, s4, s5, s6, s7, s8, s9, s10, s11, s12, s13, s14, s15]
def zP (C C3 CP CD CH : Addr) (ps : List (Str × List Str)) (xs : List Str) (s : Sm) : D := .seq false [smD s, madeV C C3 CP CD CH ps xs s]
section
variable {s0 s1 s2 s3 s4 s5 s6 s7 s8 s9 s10 s11 s12 s13 s14 s15 : Sl}
section
variable (T : Wd ps xs named z0 z1 st) (k3 : L2.Tr.KT K aW3 wayS) (kW : L2.Tr.KT K aW oth) (kN : L2.Tr.KT K aN nums) (cs : Cs C C3 CP CD CH LP LD LC) (hr : ∀ r ∈ rW ps xs named st z0 z1, r.length = (keysOf ps xs).length)
include T k3 kW kN cs hr
end
end
end
end L2.K1

/-! k08: Drops of unlike columns; what is handed in and changed behind. -/
namespace L2.K1
open PySem PySem.Spec PyProof.Rows L2.Tr
section
variable {K : PySem.W.Frag} {C C3 aW3 aN aW aB CP CD CH : Addr} {ps ps2 : List (Str × List Str)} {xs xs2 named st : List Str} {z0 z1 : Str} {l m : Lk} {LP LD LC : List Addr}
/-! k08: the turns. -/
namespace L2.K1
open PySem PySem.Spec PyProof.Rows L2.Tr
section
variable {K : PySem.W.Frag} {j : Addr × Addr} {C C3 aW3 aN aW aB CP CD CH : Addr} {ps : List (Str × List Str)} {xs named st : List Str} {z0 z1 : Str} {LP LD LC : List Addr}
end
end L2.K1

/-! k08: levels; the law. -/
namespace L2.K1
open PySem PySem.Spec PyProof.Rows L2.Tr
section
variable {P : Program} {w : World} {K : PySem.W.Frag} {mg : Str → Option Value} {base : Heap}
namespace L2.K1
open PySem PySem.Spec PyProof.Rows L2.Tr
theorem kit_no {K : PySem.W.Frag} {C : Addr} {s : String} (hd : PySem.W.hasDictIn K C = true) (ty : PySem.W.typeIn K (.ref C) = some (.type "type")) (h : PySem.W.subIn K (.type s) (.ref C) = some false) : PySem.W.kitOne K (.type s) (.ref C) = some false := by
  unfold PySem.W.kitOne
  rw [if_neg (by simp)]
  show (if ((PySem.W.clsIn K C).isSome && PySem.W.typeIn K (.ref C) == some (.type "type")) = true then PySem.W.subIn K (.type s) (.ref C) else none) = _
  have : (PySem.W.clsIn K C).isSome = true := by
    unfold PySem.W.hasDictIn at hd
    cases e : PySem.W.clsIn K C with
    | some _ => rfl
    | none => rw [e] at hd; simp at hd
  rw [this, ty, if_pos (by rfl)]
  exact h
theorem all_mk {l : PySem.W.OpenLaw} {w : World} {K : PySem.W.Frag} {h : Heap} {mg : Str → Option Value} {fa : Addr} (X : K.In h) (G : h.Ns mainGlobals mg) (hfa : mg "law" = some (.ref fa))
    {C : Addr}
    {fI : Addr} {ocI kVI dcI pmI cdI ctI : Value} {odI anI : Option Addr} {slI : Array (Option Value)}
    {TDI TEI : Addr} {nTI : Nat} {oTI : Option Addr} {sTI : Array (Option Value)} {ocTI : Value}
    {fnam : Addr} {ocnam kVnam dcnam pmnam cdnam ctnam : Value} {odnam annam : Option Addr} {slnam : Array (Option Value)}
    {fctv : Addr} {occtv kVctv dcctv pmctv cdctv ctctv : Value} {odctv anctv : Option Addr} {slctv : Array (Option Value)}
    {fcln : Addr} {occln kVcln dccln pmcln cdcln ctcln : Value} {odcln ancln : Option Addr} {slcln : Array (Option Value)}
    {fcin : Addr} {occin kVcin dccin pmcin cdcin ctcin : Value} {odcin ancin : Option Addr} {slcin : Array (Option Value)}
    {fceq : Addr} {occeq kVceq dcceq pmceq cdceq ctceq : Value} {odceq anceq : Option Addr} {slceq : Array (Option Value)}
    {fisNu : Addr} {ocisNu kVisNu dcisNu pmisNu cdisNu ctisNu : Value} {odisNu anisNu : Option Addr} {slisNu : Array (Option Value)}
    {fisW : Addr} {ocisW kVisW dcisW pmisW cdisW ctisW : Value} {odisW anisW : Option Addr} {slisW : Array (Option Value)}
    {fisL : Addr} {ocisL kVisL dcisL pmisL cdisL ctisL : Value} {odisL anisL : Option Addr} {slisL : Array (Option Value)}
    {fisN : Addr} {ocisN kVisN dcisN pmisN cdisN ctisN : Value} {odisN anisN : Option Addr} {slisN : Array (Option Value)}
    {fare : Addr} {ocare kVare dcare pmare cdare ctare : Value} {odare anare : Option Addr} {slare : Array (Option Value)}
    {ftold : Addr} {octold kVtold dctold pmtold cdtold cttold : Value} {odtold antold : Option Addr} {sltold : Array (Option Value)}
    {fcan : Addr} {occan kVcan dccan pmcan cdcan ctcan : Value} {odcan ancan : Option Addr} {slcan : Array (Option Value)}
    {tLE : _}
    {tML : _}
    {tMV : _}
    {tMC : _}
    {tMF : _}
    {C3 : Addr}
    {fJ : Addr} {ocJ kVJ dcJ pmJ cdJ ctJ : Value} {odJ anJ : Option Addr} {slJ : Array (Option Value)}
    {flfo : Addr} {oclfo kVlfo dclfo pmlfo cdlfo ctlfo : Value} {odlfo anlfo : Option Addr} {sllfo : Array (Option Value)}
    {flca : Addr} {oclca kVlca dclca pmlca cdlca ctlca : Value} {odlca anlca : Option Addr} {sllca : Array (Option Value)}
    {flan : Addr} {oclan kVlan dclan pmlan cdlan ctlan : Value} {odlan anlan : Option Addr} {sllan : Array (Option Value)}
    {flor : Addr} {oclor kVlor dclor pmlor cdlor ctlor : Value} {odlor anlor : Option Addr} {sllor : Array (Option Value)}
    {flsu : Addr} {oclsu kVlsu dclsu pmlsu cdlsu ctlsu : Value} {odlsu anlsu : Option Addr} {sllsu : Array (Option Value)}
    {flxo : Addr} {oclxo kVlxo dclxo pmlxo cdlxo ctlxo : Value} {odlxo anlxo : Option Addr} {sllxo : Array (Option Value)}
    {fliv : Addr} {ocliv kVliv dcliv pmliv cdliv ctliv : Value} {odliv anliv : Option Addr} {slliv : Array (Option Value)}
    {fcnt : Addr} {occnt kVcnt dccnt pmcnt cdcnt ctcnt : Value} {odcnt ancnt : Option Addr} {slcnt : Array (Option Value)}
    {ffin : Addr} {ocfin kVfin dcfin pmfin cdfin ctfin : Value} {odfin anfin : Option Addr} {slfin : Array (Option Value)}
    {ffsm : Addr} {ocfsm kVfsm dcfsm pmfsm cdfsm ctfsm : Value} {odfsm anfsm : Option Addr} {slfsm : Array (Option Value)}
    {fjoi : Addr} {ocjoi kVjoi dcjoi pmjoi cdjoi ctjoi : Value} {odjoi anjoi : Option Addr} {sljoi : Array (Option Value)}
    {fava : Addr} {ocava kVava dcava pmava cdava ctava : Value} {odava anava : Option Addr} {slava : Array (Option Value)}
    {fanu : Addr} {ocanu kVanu dcanu pmanu cdanu ctanu : Value} {odanu ananu : Option Addr} {slanu : Array (Option Value)}
    {fhas : Addr} {ochas kVhas dchas pmhas cdhas cthas : Value} {odhas anhas : Option Addr} {slhas : Array (Option Value)}
    {fsm2 : Addr} {ocsm2 kVsm2 dcsm2 pmsm2 cdsm2 ctsm2 : Value} {odsm2 ansm2 : Option Addr} {slsm2 : Array (Option Value)}
    {fnmb : Addr} {ocnmb kVnmb dcnmb pmnmb cdnmb ctnmb : Value} {odnmb annmb : Option Addr} {slnmb : Array (Option Value)}
    {feve : Addr} {oceve kVeve dceve pmeve cdeve cteve : Value} {odeve aneve : Option Addr} {sleve : Array (Option Value)}
    {tGN : _}
    {aNUM : Addr} {oNUM : Option Addr} {nNUM : Nat} {sNUM : Array (Option Value)} {tNUM0 tNUM1 tNUM2 tNUM3 tNUM4 : Tok}
    {aOTH : Addr} {oOTH : Option Addr} {nOTH : Nat} {sOTH : Array (Option Value)} {tOTH0 tOTH1 : Tok}
    {aWAY : Addr} {oWAY : Option Addr} {nWAY : Nat} {sWAY : Array (Option Value)} {tWAY0 tWAY1 tWAY2 : Tok}
    {tMT : _}
    {fleq : Addr} {ocleq kVleq dcleq pmleq cdleq ctleq : Value} {odleq anleq : Option Addr} {slleq : Array (Option Value)}
    {CP : Addr}
    {CD : Addr}
    {CH : Addr}
    {aBD aBC : Addr} {tkQ tkZ tkU : Tok}
    {fQ : Addr} {ocQ dcQ pmQ cdQ ctQ : Value} {odQ anQ : Option Addr} {slQ : Array (Option Value)} {TKQ : Addr}
    {fZ : Addr} {ocZ dcZ pmZ cdZ ctZ : Value} {odZ anZ : Option Addr} {slZ : Array (Option Value)} {TKZ : Addr}
    {fU : Addr} {ocU dcU pmU cdU ctU : Value} {odU anU : Option Addr} {slU : Array (Option Value)} {TKU : Addr}
    {oEBD : Option Addr} {nEBD : Nat} {sEBD : Array (Option Value)}
    {fpto : Addr} {ocpto kVpto dcpto pmpto cdpto ctpto : Value} {odpto anpto : Option Addr} {slpto : Array (Option Value)}
    {fpbn : Addr} {ocpbn kVpbn dcpbn pmpbn cdpbn ctpbn : Value} {odpbn anpbn : Option Addr} {slpbn : Array (Option Value)}
    {fppr : Addr} {ocppr kVppr dcppr pmppr cdppr ctppr : Value} {odppr anppr : Option Addr} {slppr : Array (Option Value)}
    {fpqe : Addr} {ocpqe kVpqe dcpqe pmpqe cdpqe ctpqe : Value} {odpqe anpqe : Option Addr} {slpqe : Array (Option Value)}
    {fdto : Addr} {ocdto kVdto dcdto pmdto cddto ctdto : Value} {oddto andto : Option Addr} {sldto : Array (Option Value)}
    {fdbn : Addr} {ocdbn kVdbn dcdbn pmdbn cddbn ctdbn : Value} {oddbn andbn : Option Addr} {sldbn : Array (Option Value)}
    {fdpr : Addr} {ocdpr kVdpr dcdpr pmdpr cddpr ctdpr : Value} {oddpr andpr : Option Addr} {sldpr : Array (Option Value)}
    {fdqe : Addr} {ocdqe kVdqe dcdqe pmdqe cddqe ctdqe : Value} {oddqe andqe : Option Addr} {sldqe : Array (Option Value)}
    {fhto : Addr} {ochto kVhto dchto pmhto cdhto cthto : Value} {odhto anhto : Option Addr} {slhto : Array (Option Value)}
    {fhbn : Addr} {ochbn kVhbn dchbn pmhbn cdhbn cthbn : Value} {odhbn anhbn : Option Addr} {slhbn : Array (Option Value)}
    {fhpr : Addr} {ochpr kVhpr dchpr pmhpr cdhpr cthpr : Value} {odhpr anhpr : Option Addr} {slhpr : Array (Option Value)}
    {fhqe : Addr} {ochqe kVhqe dchqe pmhqe cdhqe cthqe : Value} {odhqe anhqe : Option Addr} {slhqe : Array (Option Value)}
    {faxs : Addr} {ocaxs kVaxs dcaxs pmaxs cdaxs ctaxs : Value} {odaxs anaxs : Option Addr} {slaxs : Array (Option Value)}
    {ffbb : Addr} {ocfbb kVfbb dcfbb pmfbb cdfbb ctfbb : Value} {odfbb anfbb : Option Addr} {slfbb : Array (Option Value)}
    {ffal : Addr} {ocfal kVfal dcfal pmfal cdfal ctfal : Value} {odfal anfal : Option Addr} {slfal : Array (Option Value)}
    {fsrc : Addr} {ocsrc kVsrc dcsrc pmsrc cdsrc ctsrc : Value} {odsrc ansrc : Option Addr} {slsrc : Array (Option Value)}
    {fmom : Addr} {ocmom kVmom dcmom pmmom cdmom ctmom : Value} {odmom anmom : Option Addr} {slmom : Array (Option Value)}
    {fcap : Addr} {occap kVcap dccap pmcap cdcap ctcap : Value} {odcap ancap : Option Addr} {slcap : Array (Option Value)}
    {fisc : Addr} {ocisc kVisc dcisc pmisc cdisc ctisc : Value} {odisc anisc : Option Addr} {slisc : Array (Option Value)}
    {farc : Addr} {ocarc kVarc dcarc pmarc cdarc ctarc : Value} {odarc anarc : Option Addr} {slarc : Array (Option Value)}
    {fcop : Addr} {occop kVcop dccop pmcop cdcop ctcop : Value} {odcop ancop : Option Addr} {slcop : Array (Option Value)}
    {fcos : Addr} {occos kVcos dccos pmcos cdcos ctcos : Value} {odcos ancos : Option Addr} {slcos : Array (Option Value)}
    {fcog : Addr} {occog kVcog dccog pmcog cdcog ctcog : Value} {odcog ancog : Option Addr} {slcog : Array (Option Value)}
    {fgua : Addr} {ocgua kVgua dcgua pmgua cdgua ctgua : Value} {odgua angua : Option Addr} {slgua : Array (Option Value)}
    {ford : Addr} {ocord kVord dcord pmord cdord ctord : Value} {odord anord : Option Addr} {slord : Array (Option Value)}
    {fcho : Addr} {occho kVcho dccho pmcho cdcho ctcho : Value} {odcho ancho : Option Addr} {slcho : Array (Option Value)}
    {fche : Addr} {ocche kVche dcche pmche cdche ctche : Value} {odche anche : Option Addr} {slche : Array (Option Value)}
    {foby : Addr} {ocoby kVoby dcoby pmoby cdoby ctoby : Value} {odoby anoby : Option Addr} {sloby : Array (Option Value)}
    {fpick : Addr} {ocpick kVpick dcpick pmpick cdpick ctpick : Value} {odpick anpick : Option Addr} {slpick : Array (Option Value)}
    {fdraw : Addr} {ocdraw kVdraw dcdraw pmdraw cddraw ctdraw : Value} {oddraw andraw : Option Addr} {sldraw : Array (Option Value)}
    {fstart : Addr} {ocstart kVstart dcstart pmstart cdstart ctstart : Value} {odstart anstart : Option Addr} {slstart : Array (Option Value)}
    {fword : Addr} {ocword kVword dcword pmword cdword ctword : Value} {odword anword : Option Addr} {slword : Array (Option Value)}
    {fwords : Addr} {ocwords kVwords dcwords pmwords cdwords ctwords : Value} {odwords anwords : Option Addr} {slwords : Array (Option Value)}
    {fwo : Addr} {ocwo kVwo dcwo pmwo cdwo ctwo : Value} {odwo anwo : Option Addr} {slwo : Array (Option Value)}
    {fcof : Addr} {occof kVcof dccof pmcof cdcof ctcof : Value} {odcof ancof : Option Addr} {slcof : Array (Option Value)}
    {fle : Addr} {ocle kVle dcle pmle cdle ctle : Value} {odle anle : Option Addr} {slle : Array (Option Value)}
    {fspr : Addr} {ocspr kVspr dcspr pmspr cdspr ctspr : Value} {odspr anspr : Option Addr} {slspr : Array (Option Value)}
    {fsame : Addr} {ocsame kVsame dcsame pmsame cdsame ctsame : Value} {odsame ansame : Option Addr} {slsame : Array (Option Value)}
    {fsom : Addr} {ocsom kVsom dcsom pmsom cdsom ctsom : Value} {odsom ansom : Option Addr} {slsom : Array (Option Value)}
    {fslk : Addr} {ocslk kVslk dcslk pmslk cdslk ctslk : Value} {odslk anslk : Option Addr} {slslk : Array (Option Value)}
    {flok : Addr} {oclok kVlok dclok pmlok cdlok ctlok : Value} {odlok anlok : Option Addr} {sllok : Array (Option Value)}
    {flof : Addr} {oclof kVlof dclof pmlof cdlof ctlof : Value} {odlof anlof : Option Addr} {sllof : Array (Option Value)}
    {fhld : Addr} {ochld kVhld dchld pmhld cdhld cthld : Value} {odhld anhld : Option Addr} {slhld : Array (Option Value)}
    {ffds : Addr} {ocfds kVfds dcfds pmfds cdfds ctfds : Value} {odfds anfds : Option Addr} {slfds : Array (Option Value)}
    {flsr : Addr} {oclsr kVlsr dclsr pmlsr cdlsr ctlsr : Value} {odlsr anlsr : Option Addr} {sllsr : Array (Option Value)}
    {flch : Addr} {oclch kVlch dclch pmlch cdlch ctlch : Value} {odlch anlch : Option Addr} {sllch : Array (Option Value)}
    {fodr : Addr} {ocodr kVodr dcodr pmodr cdodr ctodr : Value} {ododr anodr : Option Addr} {slodr : Array (Option Value)}
    {fbar : Addr} {ocbar kVbar dcbar pmbar cdbar ctbar : Value} {odbar anbar : Option Addr} {slbar : Array (Option Value)}
    {flpu : Addr} {oclpu kVlpu dclpu pmlpu cdlpu ctlpu : Value} {odlpu anlpu : Option Addr} {sllpu : Array (Option Value)}
    {fsta : Addr} {ocsta kVsta dcsta pmsta cdsta ctsta : Value} {odsta ansta : Option Addr} {slsta : Array (Option Value)}
    {flmd : Addr} {oclmd kVlmd dclmd pmlmd cdlmd ctlmd : Value} {odlmd anlmd : Option Addr} {sllmd : Array (Option Value)}
    {flik : Addr} {oclik kVlik dclik pmlik cdlik ctlik : Value} {odlik anlik : Option Addr} {sllik : Array (Option Value)}
    {fwip : Addr} {ocwip kVwip dcwip pmwip cdwip ctwip : Value} {odwip anwip : Option Addr} {slwip : Array (Option Value)}
    {fwid : Addr} {ocwid kVwid dcwid pmwid cdwid ctwid : Value} {odwid anwid : Option Addr} {slwid : Array (Option Value)}
    {fnud : Addr} {ocnud kVnud dcnud pmnud cdnud ctnud : Value} {odnud annud : Option Addr} {slnud : Array (Option Value)}
    {fben : Addr} {ocben kVben dcben pmben cdben ctben : Value} {odben anben : Option Addr} {slben : Array (Option Value)}
    {fsho : Addr} {ocsho kVsho dcsho pmsho cdsho ctsho : Value} {odsho ansho : Option Addr} {slsho : Array (Option Value)}
    {flaw : Addr} {oclaw kVlaw dclaw pmlaw cdlaw ctlaw : Value} {odlaw anlaw : Option Addr} {sllaw : Array (Option Value)}
    (aC : PySem.W.nsIn K mainGlobals "Columns" = some (some (.ref C)))
    (pgC : PySem.W.plainGet K C Str.empty = true)
    (hdC : PySem.W.hasDictIn K C = true)
    (poC : PySem.W.plainOver K C = true)
    (saC : PySem.W.findIn K (.ref C) "__setattr__" = some (some (.builtin "object.__setattr__")))
    (nC0 : PySem.W.findIn K (.ref C) "_values" = some none)
    (mkC : PySem.W.makesIn K C = true)
    (kkC : PySem.W.keepIn K (.ref C) = true)
    (clC : PySem.W.findIn K (.ref C) "__class__" = some (some (.builtin "object.__class__")))
    (moC : PySem.W.mroIn K C (.type "object") = some true)
    (neC : PySem.W.findIn K (.ref C) "__ne__" = some (some (.builtin "object.__ne__")))
    (tyC : PySem.W.typeIn K (.ref C) = some (.type "type"))
    (ktC0 : PySem.W.subIn K (.type "NoneType") (.ref C) = some false)
    (ktC1 : PySem.W.subIn K (.type "bool") (.ref C) = some false)
    (ktC2 : PySem.W.subIn K (.type "int") (.ref C) = some false)
    (ktC3 : PySem.W.subIn K (.type "str") (.ref C) = some false)
    (ktC4 : PySem.W.subIn K (.type "list") (.ref C) = some false)
    (ktC5 : PySem.W.subIn K (.type "tuple") (.ref C) = some false)
    (ktC6 : PySem.W.subIn K (.type "dict") (.ref C) = some false)
    (gsC : PySem.W.specialIn K (.builtin "object.__class__") "__get__" = some (some (.builtin "getset_descriptor.__get__")))
    (tkC : PySem.W.takesIn K (.builtin "object.__class__") = some true)
    (iI : PySem.W.findIn K (.ref C) "__init__" = some (some (.ref fI)))
    (fnI : PySem.W.isFn K (.ref fI) = true)
    (lI : K.lookup fI = some ⟨ocI, odI, .func (PySem.W.fnOf "__init__" "Columns.__init__" (defArgs sInit) (defBody sInit) (defScope sInit) (.ref TDI) kVI dcI pmI anI cdI ctI), slI⟩)
    (cI : PySem.W.codeIn K cdI "Columns.__init__" = true)
    (kI : PySem.W.keepIn K (.ref fI) = true)
    (lTDI : K.lookup TDI = some ⟨ocTI, oTI, .seq #[.ref TEI] nTI, sTI⟩)
    (inam : PySem.W.findIn K (.ref C) "names" = some (some (.ref fnam)))
    (fnnam : PySem.W.isFn K (.ref fnam) = true)
    (lnam : K.lookup fnam = some ⟨ocnam, odnam, .func (PySem.W.fnOf "names" "Columns.names" (defArgs sNames) (defBody sNames) (defScope sNames) .none kVnam dcnam pmnam annam cdnam ctnam), slnam⟩)
    (cnam : PySem.W.codeIn K cdnam "Columns.names" = true)
    (knam : PySem.W.keepIn K (.ref fnam) = true)
    (ictv : PySem.W.findIn K (.ref C) "told_values" = some (some (.ref fctv)))
    (fnctv : PySem.W.isFn K (.ref fctv) = true)
    (lctv : K.lookup fctv = some ⟨occtv, odctv, .func (PySem.W.fnOf "told_values" "Columns.told_values" (defArgs sTV) (defBody sTV) (defScope sTV) .none kVctv dcctv pmctv anctv cdctv ctctv), slctv⟩)
    (cctv : PySem.W.codeIn K cdctv "Columns.told_values" = true)
    (kctv : PySem.W.keepIn K (.ref fctv) = true)
    (icln : PySem.W.findIn K (.ref C) "__len__" = some (some (.ref fcln)))
    (fncln : PySem.W.isFn K (.ref fcln) = true)
    (lcln : K.lookup fcln = some ⟨occln, odcln, .func (PySem.W.fnOf "__len__" "Columns.__len__" (defArgs sLen) (defBody sLen) (defScope sLen) .none kVcln dccln pmcln ancln cdcln ctcln), slcln⟩)
    (ccln : PySem.W.codeIn K cdcln "Columns.__len__" = true)
    (kcln : PySem.W.keepIn K (.ref fcln) = true)
    (icin : PySem.W.findIn K (.ref C) "__contains__" = some (some (.ref fcin)))
    (fncin : PySem.W.isFn K (.ref fcin) = true)
    (lcin : K.lookup fcin = some ⟨occin, odcin, .func (PySem.W.fnOf "__contains__" "Columns.__contains__" (defArgs sIn) (defBody sIn) (defScope sIn) .none kVcin dccin pmcin ancin cdcin ctcin), slcin⟩)
    (ccin : PySem.W.codeIn K cdcin "Columns.__contains__" = true)
    (kcin : PySem.W.keepIn K (.ref fcin) = true)
    (iceq : PySem.W.findIn K (.ref C) "__eq__" = some (some (.ref fceq)))
    (fnceq : PySem.W.isFn K (.ref fceq) = true)
    (lceq : K.lookup fceq = some ⟨occeq, odceq, .func (PySem.W.fnOf "__eq__" "Columns.__eq__" (defArgs sEq) (defBody sEq) (defScope sEq) .none kVceq dcceq pmceq anceq cdceq ctceq), slceq⟩)
    (cceq : PySem.W.codeIn K cdceq "Columns.__eq__" = true)
    (kceq : PySem.W.keepIn K (.ref fceq) = true)
    (aisNu : PySem.W.nsIn K mainGlobals "is_number" = some (some (.ref fisNu)))
    (lisNu : K.lookup fisNu = some ⟨ocisNu, odisNu, .func (PySem.W.fnOf "is_number" "is_number" (defArgs sIsNu) (defBody sIsNu) (defScope sIsNu) .none kVisNu dcisNu pmisNu anisNu cdisNu ctisNu), slisNu⟩)
    (cisNu : PySem.W.codeIn K cdisNu "is_number" = true)
    (kisNu : PySem.W.keepIn K (.ref fisNu) = true)
    (aisW : PySem.W.nsIn K mainGlobals "is_word" = some (some (.ref fisW)))
    (lisW : K.lookup fisW = some ⟨ocisW, odisW, .func (PySem.W.fnOf "is_word" "is_word" (defArgs sIsW) (defBody sIsW) (defScope sIsW) .none kVisW dcisW pmisW anisW cdisW ctisW), slisW⟩)
    (cisW : PySem.W.codeIn K cdisW "is_word" = true)
    (kisW : PySem.W.keepIn K (.ref fisW) = true)
    (aisL : PySem.W.nsIn K mainGlobals "is_list" = some (some (.ref fisL)))
    (lisL : K.lookup fisL = some ⟨ocisL, odisL, .func (PySem.W.fnOf "is_list" "is_list" (defArgs sIsL) (defBody sIsL) (defScope sIsL) .none kVisL dcisL pmisL anisL cdisL ctisL), slisL⟩)
    (cisL : PySem.W.codeIn K cdisL "is_list" = true)
    (kisL : PySem.W.keepIn K (.ref fisL) = true)
    (aisN : PySem.W.nsIn K mainGlobals "_is_name" = some (some (.ref fisN)))
    (lisN : K.lookup fisN = some ⟨ocisN, odisN, .func (PySem.W.fnOf "_is_name" "_is_name" (defArgs sIsN) (defBody sIsN) (defScope sIsN) .none kVisN dcisN pmisN anisN cdisN ctisN), slisN⟩)
    (cisN : PySem.W.codeIn K cdisN "_is_name" = true)
    (kisN : PySem.W.keepIn K (.ref fisN) = true)
    (aare : PySem.W.nsIn K mainGlobals "are_values_columns" = some (some (.ref fare)))
    (lare : K.lookup fare = some ⟨ocare, odare, .func (PySem.W.fnOf "_are_values" "_are_values" (defArgs sAre) (defBody sAre) (defScope sAre) .none kVare dcare pmare anare cdare ctare), slare⟩)
    (care : PySem.W.codeIn K cdare "_are_values" = true)
    (kare : PySem.W.keepIn K (.ref fare) = true)
    (atold : PySem.W.nsIn K mainGlobals "_is_told" = some (some (.ref ftold)))
    (ltold : K.lookup ftold = some ⟨octold, odtold, .func (PySem.W.fnOf "_is_told" "_is_told" (defArgs sTold) (defBody sTold) (defScope sTold) .none kVtold dctold pmtold antold cdtold cttold), sltold⟩)
    (ctold : PySem.W.codeIn K cdtold "_is_told" = true)
    (ktold : PySem.W.keepIn K (.ref ftold) = true)
    (acan : PySem.W.nsIn K mainGlobals "can_stand" = some (some (.ref fcan)))
    (lcan : K.lookup fcan = some ⟨occan, odcan, .func (PySem.W.fnOf "can_stand" "can_stand" (defArgs sCan) (defBody sCan) (defScope sCan) .none kVcan dccan pmcan ancan cdcan ctcan), slcan⟩)
    (ccan : PySem.W.codeIn K cdcan "can_stand" = true)
    (kcan : PySem.W.keepIn K (.ref fcan) = true)
    (gLE : PySem.W.nsIn K mainGlobals "LETTERS" = some (some (.str "abcdefghijklmnopqrstuvwxyz" tLE)))
    (gML : PySem.W.nsIn K mainGlobals "MOST_LETTERS" = some (some (.int 8 tML)))
    (gMV : PySem.W.nsIn K mainGlobals "MOST_VALUES" = some (some (.int 3 tMV)))
    (gMC : PySem.W.nsIn K mainGlobals "MOST_COLUMNS" = some (some (.int 3 tMC)))
    (gMF : PySem.W.nsIn K mainGlobals "MOST_FREE" = some (some (.int 2 tMF)))
    (aL : PySem.W.nsIn K mainGlobals "Look" = some (some (.ref C3)))
    (pgL : PySem.W.plainGet K C3 Str.empty = true)
    (hdL : PySem.W.hasDictIn K C3 = true)
    (poL : PySem.W.plainOver K C3 = true)
    (saL : PySem.W.findIn K (.ref C3) "__setattr__" = some (some (.builtin "object.__setattr__")))
    (nL0 : PySem.W.findIn K (.ref C3) "columns" = some none)
    (nL1 : PySem.W.findIn K (.ref C3) "steps" = some none)
    (mkL : PySem.W.makesIn K C3 = true)
    (kkL : PySem.W.keepIn K (.ref C3) = true)
    (clL : PySem.W.findIn K (.ref C3) "__class__" = some (some (.builtin "object.__class__")))
    (moL : PySem.W.mroIn K C3 (.type "object") = some true)
    (neL : PySem.W.findIn K (.ref C3) "__ne__" = some (some (.builtin "object.__ne__")))
    (tyL : PySem.W.typeIn K (.ref C3) = some (.type "type"))
    (ktL0 : PySem.W.subIn K (.type "NoneType") (.ref C3) = some false)
    (ktL1 : PySem.W.subIn K (.type "bool") (.ref C3) = some false)
    (ktL2 : PySem.W.subIn K (.type "int") (.ref C3) = some false)
    (ktL3 : PySem.W.subIn K (.type "str") (.ref C3) = some false)
    (ktL4 : PySem.W.subIn K (.type "list") (.ref C3) = some false)
    (ktL5 : PySem.W.subIn K (.type "tuple") (.ref C3) = some false)
    (ktL6 : PySem.W.subIn K (.type "dict") (.ref C3) = some false)
    (sfL : PySem.W.selfFirst K C3 = true)
    (iJ : PySem.W.findIn K (.ref C3) "__init__" = some (some (.ref fJ)))
    (fnJ : PySem.W.isFn K (.ref fJ) = true)
    (lJ : K.lookup fJ = some ⟨ocJ, odJ, .func (PySem.W.fnOf "__init__" "Look.__init__" (defArgs sLInit) (defBody sLInit) (defScope sLInit) .none kVJ dcJ pmJ anJ cdJ ctJ), slJ⟩)
    (cJ : PySem.W.codeIn K cdJ "Look.__init__" = true)
    (kJ : PySem.W.keepIn K (.ref fJ) = true)
    (ilfo : PySem.W.findIn K (.ref C3) "found" = some (some (.ref flfo)))
    (fnlfo : PySem.W.isFn K (.ref flfo) = true)
    (llfo : K.lookup flfo = some ⟨oclfo, odlfo, .func (PySem.W.fnOf "found" "Look.found" (defArgs sFound) (defBody sFound) (defScope sFound) .none kVlfo dclfo pmlfo anlfo cdlfo ctlfo), sllfo⟩)
    (clfo : PySem.W.codeIn K cdlfo "Look.found" = true)
    (klfo : PySem.W.keepIn K (.ref flfo) = true)
    (ilca : PySem.W.findIn K (.ref C3) "__call__" = some (some (.ref flca)))
    (fnlca : PySem.W.isFn K (.ref flca) = true)
    (llca : K.lookup flca = some ⟨oclca, odlca, .func (PySem.W.fnOf "__call__" "Look.__call__" (defArgs sLCall) (defBody sLCall) (defScope sLCall) .none kVlca dclca pmlca anlca cdlca ctlca), sllca⟩)
    (clca : PySem.W.codeIn K cdlca "Look.__call__" = true)
    (klca : PySem.W.keepIn K (.ref flca) = true)
    (filca : PySem.W.fnIn K flca = true)
    (ilan : PySem.W.findIn K (.ref C3) "__and__" = some (some (.ref flan)))
    (fnlan : PySem.W.isFn K (.ref flan) = true)
    (llan : K.lookup flan = some ⟨oclan, odlan, .func (PySem.W.fnOf "__and__" "Look.__and__" (defArgs sLAnd) (defBody sLAnd) (defScope sLAnd) .none kVlan dclan pmlan anlan cdlan ctlan), sllan⟩)
    (clan : PySem.W.codeIn K cdlan "Look.__and__" = true)
    (klan : PySem.W.keepIn K (.ref flan) = true)
    (ilor : PySem.W.findIn K (.ref C3) "__or__" = some (some (.ref flor)))
    (fnlor : PySem.W.isFn K (.ref flor) = true)
    (llor : K.lookup flor = some ⟨oclor, odlor, .func (PySem.W.fnOf "__or__" "Look.__or__" (defArgs sLOr) (defBody sLOr) (defScope sLOr) .none kVlor dclor pmlor anlor cdlor ctlor), sllor⟩)
    (clor : PySem.W.codeIn K cdlor "Look.__or__" = true)
    (klor : PySem.W.keepIn K (.ref flor) = true)
    (ilsu : PySem.W.findIn K (.ref C3) "__sub__" = some (some (.ref flsu)))
    (fnlsu : PySem.W.isFn K (.ref flsu) = true)
    (llsu : K.lookup flsu = some ⟨oclsu, odlsu, .func (PySem.W.fnOf "__sub__" "Look.__sub__" (defArgs sLSub) (defBody sLSub) (defScope sLSub) .none kVlsu dclsu pmlsu anlsu cdlsu ctlsu), sllsu⟩)
    (clsu : PySem.W.codeIn K cdlsu "Look.__sub__" = true)
    (klsu : PySem.W.keepIn K (.ref flsu) = true)
    (ilxo : PySem.W.findIn K (.ref C3) "__xor__" = some (some (.ref flxo)))
    (fnlxo : PySem.W.isFn K (.ref flxo) = true)
    (llxo : K.lookup flxo = some ⟨oclxo, odlxo, .func (PySem.W.fnOf "__xor__" "Look.__xor__" (defArgs sLXor) (defBody sLXor) (defScope sLXor) .none kVlxo dclxo pmlxo anlxo cdlxo ctlxo), sllxo⟩)
    (clxo : PySem.W.codeIn K cdlxo "Look.__xor__" = true)
    (klxo : PySem.W.keepIn K (.ref flxo) = true)
    (iliv : PySem.W.findIn K (.ref C3) "__invert__" = some (some (.ref fliv)))
    (fnliv : PySem.W.isFn K (.ref fliv) = true)
    (lliv : K.lookup fliv = some ⟨ocliv, odliv, .func (PySem.W.fnOf "__invert__" "Look.__invert__" (defArgs sLInv) (defBody sLInv) (defScope sLInv) .none kVliv dcliv pmliv anliv cdliv ctliv), slliv⟩)
    (cliv : PySem.W.codeIn K cdliv "Look.__invert__" = true)
    (kliv : PySem.W.keepIn K (.ref fliv) = true)
    (acnt : PySem.W.nsIn K mainGlobals "_count" = some (some (.ref fcnt)))
    (lcnt : K.lookup fcnt = some ⟨occnt, odcnt, .func (PySem.W.fnOf "_count" "_count" (defArgs sCount) (defBody sCount) (defScope sCount) .none kVcnt dccnt pmcnt ancnt cdcnt ctcnt), slcnt⟩)
    (ccnt : PySem.W.codeIn K cdcnt "_count" = true)
    (kcnt : PySem.W.keepIn K (.ref fcnt) = true)
    (afin : PySem.W.nsIn K mainGlobals "_found_in" = some (some (.ref ffin)))
    (lfin : K.lookup ffin = some ⟨ocfin, odfin, .func (PySem.W.fnOf "_found_in" "_found_in" (defArgs sFIn) (defBody sFIn) (defScope sFIn) .none kVfin dcfin pmfin anfin cdfin ctfin), slfin⟩)
    (cfin : PySem.W.codeIn K cdfin "_found_in" = true)
    (kfin : PySem.W.keepIn K (.ref ffin) = true)
    (afsm : PySem.W.nsIn K mainGlobals "_found_same" = some (some (.ref ffsm)))
    (lfsm : K.lookup ffsm = some ⟨ocfsm, odfsm, .func (PySem.W.fnOf "_found_same" "_found_same" (defArgs sFSame) (defBody sFSame) (defScope sFSame) .none kVfsm dcfsm pmfsm anfsm cdfsm ctfsm), slfsm⟩)
    (cfsm : PySem.W.codeIn K cdfsm "_found_same" = true)
    (kfsm : PySem.W.keepIn K (.ref ffsm) = true)
    (ajoi : PySem.W.nsIn K mainGlobals "_joined" = some (some (.ref fjoi)))
    (ljoi : K.lookup fjoi = some ⟨ocjoi, odjoi, .func (PySem.W.fnOf "_joined" "_joined" (defArgs sJoined) (defBody sJoined) (defScope sJoined) .none kVjoi dcjoi pmjoi anjoi cdjoi ctjoi), sljoi⟩)
    (cjoi : PySem.W.codeIn K cdjoi "_joined" = true)
    (kjoi : PySem.W.keepIn K (.ref fjoi) = true)
    (aava : PySem.W.nsIn K mainGlobals "are_values_looks" = some (some (.ref fava)))
    (lava : K.lookup fava = some ⟨ocava, odava, .func (PySem.W.fnOf "_are_values" "_are_values" (defArgs sAVal) (defBody sAVal) (defScope sAVal) .none kVava dcava pmava anava cdava ctava), slava⟩)
    (cava : PySem.W.codeIn K cdava "_are_values" = true)
    (kava : PySem.W.keepIn K (.ref fava) = true)
    (aanu : PySem.W.nsIn K mainGlobals "_are_numbers" = some (some (.ref fanu)))
    (lanu : K.lookup fanu = some ⟨ocanu, odanu, .func (PySem.W.fnOf "_are_numbers" "_are_numbers" (defArgs sANum) (defBody sANum) (defScope sANum) .none kVanu dcanu pmanu ananu cdanu ctanu), slanu⟩)
    (canu : PySem.W.codeIn K cdanu "_are_numbers" = true)
    (kanu : PySem.W.keepIn K (.ref fanu) = true)
    (ahas : PySem.W.nsIn K mainGlobals "has" = some (some (.ref fhas)))
    (lhas : K.lookup fhas = some ⟨ochas, odhas, .func (PySem.W.fnOf "has" "has" (defArgs sHas) (defBody sHas) (defScope sHas) .none kVhas dchas pmhas anhas cdhas cthas), slhas⟩)
    (chas : PySem.W.codeIn K cdhas "has" = true)
    (khas : PySem.W.keepIn K (.ref fhas) = true)
    (asm2 : PySem.W.nsIn K mainGlobals "same" = some (some (.ref fsm2)))
    (lsm2 : K.lookup fsm2 = some ⟨ocsm2, odsm2, .func (PySem.W.fnOf "same" "same" (defArgs sSame2) (defBody sSame2) (defScope sSame2) .none kVsm2 dcsm2 pmsm2 ansm2 cdsm2 ctsm2), slsm2⟩)
    (csm2 : PySem.W.codeIn K cdsm2 "same" = true)
    (ksm2 : PySem.W.keepIn K (.ref fsm2) = true)
    (anmb : PySem.W.nsIn K mainGlobals "numbered" = some (some (.ref fnmb)))
    (lnmb : K.lookup fnmb = some ⟨ocnmb, odnmb, .func (PySem.W.fnOf "numbered" "numbered" (defArgs sNumb) (defBody sNumb) (defScope sNumb) .none kVnmb dcnmb pmnmb annmb cdnmb ctnmb), slnmb⟩)
    (cnmb : PySem.W.codeIn K cdnmb "numbered" = true)
    (knmb : PySem.W.keepIn K (.ref fnmb) = true)
    (aeve : PySem.W.nsIn K mainGlobals "every" = some (some (.ref feve)))
    (leve : K.lookup feve = some ⟨oceve, odeve, .func (PySem.W.fnOf "every" "every" (defArgs sEvery) (defBody sEvery) (defScope sEvery) .none kVeve dceve pmeve aneve cdeve cteve), sleve⟩)
    (ceve : PySem.W.codeIn K cdeve "every" = true)
    (keve : PySem.W.keepIn K (.ref feve) = true)
    (gGN : PySem.W.nsIn K mainGlobals "GREATEST_NUMBER" = some (some (.int 4 tGN)))
    (gNUM : PySem.W.nsIn K mainGlobals "NUMBERS" = some (some (.ref aNUM)))
    (lNUM : K.lookup aNUM = some ⟨.type "tuple", oNUM, .seq #[.int 1 tNUM0, .int 2 tNUM1, .int 3 tNUM2, .int 4 tNUM3, .int 5 tNUM4] nNUM, sNUM⟩)
    (gOTH : PySem.W.nsIn K mainGlobals "OTHER_WORDS" = some (some (.ref aOTH)))
    (lOTH : K.lookup aOTH = some ⟨.type "tuple", oOTH, .seq #[.str "" tOTH0, .str "-" tOTH1] nOTH, sOTH⟩)
    (gWAY : PySem.W.nsIn K mainGlobals "WAYS" = some (some (.ref aWAY)))
    (lWAY : K.lookup aWAY = some ⟨.type "tuple", oWAY, .seq #[.str "words" tWAY0, .str "values" tWAY1, .str "rows" tWAY2] nWAY, sWAY⟩)
    (gMT : PySem.W.nsIn K mainGlobals "MOST_TAKEN" = some (some (.int 2 tMT)))
    (ileq : PySem.W.findIn K (.ref C3) "__eq__" = some (some (.ref fleq)))
    (fnleq : PySem.W.isFn K (.ref fleq) = true)
    (lleq : K.lookup fleq = some ⟨ocleq, odleq, .func (PySem.W.fnOf "__eq__" "Look.__eq__" (defArgs sLEq) (defBody sLEq) (defScope sLEq) .none kVleq dcleq pmleq anleq cdleq ctleq), slleq⟩)
    (cleq : PySem.W.codeIn K cdleq "Look.__eq__" = true)
    (kleq : PySem.W.keepIn K (.ref fleq) = true)
    (aP : PySem.W.nsIn K mainGlobals "Put" = some (some (.ref CP)))
    (pgP : PySem.W.plainGet K CP Str.empty = true)
    (hdP : PySem.W.hasDictIn K CP = true)
    (poP : PySem.W.plainOver K CP = true)
    (saP : PySem.W.findIn K (.ref CP) "__setattr__" = some (some (.builtin "object.__setattr__")))
    (nP0 : PySem.W.findIn K (.ref CP) "kind" = some none)
    (nP1 : PySem.W.findIn K (.ref CP) "columns" = some none)
    (nP2 : PySem.W.findIn K (.ref CP) "row" = some none)
    (nP3 : PySem.W.findIn K (.ref CP) "when" = some none)
    (nP4 : PySem.W.findIn K (.ref CP) "must" = some none)
    (nP5 : PySem.W.findIn K (.ref CP) "how" = some none)
    (mkP : PySem.W.makesIn K CP = true)
    (kkP : PySem.W.keepIn K (.ref CP) = true)
    (clP : PySem.W.findIn K (.ref CP) "__class__" = some (some (.builtin "object.__class__")))
    (moP : PySem.W.mroIn K CP (.type "object") = some true)
    (neP : PySem.W.findIn K (.ref CP) "__ne__" = some (some (.builtin "object.__ne__")))
    (tyP : PySem.W.typeIn K (.ref CP) = some (.type "type"))
    (ktP0 : PySem.W.subIn K (.type "NoneType") (.ref CP) = some false)
    (ktP1 : PySem.W.subIn K (.type "bool") (.ref CP) = some false)
    (ktP2 : PySem.W.subIn K (.type "int") (.ref CP) = some false)
    (ktP3 : PySem.W.subIn K (.type "str") (.ref CP) = some false)
    (ktP4 : PySem.W.subIn K (.type "list") (.ref CP) = some false)
    (ktP5 : PySem.W.subIn K (.type "tuple") (.ref CP) = some false)
    (ktP6 : PySem.W.subIn K (.type "dict") (.ref CP) = some false)
    (aD : PySem.W.nsIn K mainGlobals "Drop" = some (some (.ref CD)))
    (pgD : PySem.W.plainGet K CD Str.empty = true)
    (hdD : PySem.W.hasDictIn K CD = true)
    (poD : PySem.W.plainOver K CD = true)
    (saD : PySem.W.findIn K (.ref CD) "__setattr__" = some (some (.builtin "object.__setattr__")))
    (nD0 : PySem.W.findIn K (.ref CD) "kind" = some none)
    (nD1 : PySem.W.findIn K (.ref CD) "columns" = some none)
    (nD2 : PySem.W.findIn K (.ref CD) "look" = some none)
    (nD3 : PySem.W.findIn K (.ref CD) "most" = some none)
    (nD4 : PySem.W.findIn K (.ref CD) "by" = some none)
    (nD5 : PySem.W.findIn K (.ref CD) "when" = some none)
    (nD6 : PySem.W.findIn K (.ref CD) "must" = some none)
    (nD7 : PySem.W.findIn K (.ref CD) "how" = some none)
    (mkD : PySem.W.makesIn K CD = true)
    (kkD : PySem.W.keepIn K (.ref CD) = true)
    (clD : PySem.W.findIn K (.ref CD) "__class__" = some (some (.builtin "object.__class__")))
    (moD : PySem.W.mroIn K CD (.type "object") = some true)
    (neD : PySem.W.findIn K (.ref CD) "__ne__" = some (some (.builtin "object.__ne__")))
    (tyD : PySem.W.typeIn K (.ref CD) = some (.type "type"))
    (ktD0 : PySem.W.subIn K (.type "NoneType") (.ref CD) = some false)
    (ktD1 : PySem.W.subIn K (.type "bool") (.ref CD) = some false)
    (ktD2 : PySem.W.subIn K (.type "int") (.ref CD) = some false)
    (ktD3 : PySem.W.subIn K (.type "str") (.ref CD) = some false)
    (ktD4 : PySem.W.subIn K (.type "list") (.ref CD) = some false)
    (ktD5 : PySem.W.subIn K (.type "tuple") (.ref CD) = some false)
    (ktD6 : PySem.W.subIn K (.type "dict") (.ref CD) = some false)
    (aH : PySem.W.nsIn K mainGlobals "Change" = some (some (.ref CH)))
    (pgH : PySem.W.plainGet K CH Str.empty = true)
    (hdH : PySem.W.hasDictIn K CH = true)
    (poH : PySem.W.plainOver K CH = true)
    (saH : PySem.W.findIn K (.ref CH) "__setattr__" = some (some (.builtin "object.__setattr__")))
    (nH0 : PySem.W.findIn K (.ref CH) "kind" = some none)
    (nH1 : PySem.W.findIn K (.ref CH) "columns" = some none)
    (nH2 : PySem.W.findIn K (.ref CH) "look" = some none)
    (nH3 : PySem.W.findIn K (.ref CH) "changes" = some none)
    (nH4 : PySem.W.findIn K (.ref CH) "most" = some none)
    (nH5 : PySem.W.findIn K (.ref CH) "by" = some none)
    (nH6 : PySem.W.findIn K (.ref CH) "when" = some none)
    (nH7 : PySem.W.findIn K (.ref CH) "must" = some none)
    (nH8 : PySem.W.findIn K (.ref CH) "how" = some none)
    (mkH : PySem.W.makesIn K CH = true)
    (kkH : PySem.W.keepIn K (.ref CH) = true)
    (clH : PySem.W.findIn K (.ref CH) "__class__" = some (some (.builtin "object.__class__")))
    (moH : PySem.W.mroIn K CH (.type "object") = some true)
    (neH : PySem.W.findIn K (.ref CH) "__ne__" = some (some (.builtin "object.__ne__")))
    (tyH : PySem.W.typeIn K (.ref CH) = some (.type "type"))
    (ktH0 : PySem.W.subIn K (.type "NoneType") (.ref CH) = some false)
    (ktH1 : PySem.W.subIn K (.type "bool") (.ref CH) = some false)
    (ktH2 : PySem.W.subIn K (.type "int") (.ref CH) = some false)
    (ktH3 : PySem.W.subIn K (.type "str") (.ref CH) = some false)
    (ktH4 : PySem.W.subIn K (.type "list") (.ref CH) = some false)
    (ktH5 : PySem.W.subIn K (.type "tuple") (.ref CH) = some false)
    (ktH6 : PySem.W.subIn K (.type "dict") (.ref CH) = some false)
    (iQ : PySem.W.findIn K (.ref CP) "__init__" = some (some (.ref fQ)))
    (fnQ : PySem.W.isFn K (.ref fQ) = true)
    (lQ : K.lookup fQ = some ⟨ocQ, odQ, .func (PySem.W.fnOf "__init__" "Put.__init__" (defArgs sPInit) (defBody sPInit) (defScope sPInit) .none (.ref TKQ) dcQ pmQ anQ cdQ ctQ), slQ⟩)
    (cQ : PySem.W.codeIn K cdQ "Put.__init__" = true)
    (kQ : PySem.W.keepIn K (.ref fQ) = true)
    (qQwhen : PySem.W.nsIn K TKQ "when" = some (some (.none)))
    (qQhow : PySem.W.nsIn K TKQ "how" = some (some (.str "words" tkQ)))
    (iZ : PySem.W.findIn K (.ref CD) "__init__" = some (some (.ref fZ)))
    (fnZ : PySem.W.isFn K (.ref fZ) = true)
    (lZ : K.lookup fZ = some ⟨ocZ, odZ, .func (PySem.W.fnOf "__init__" "Drop.__init__" (defArgs sDInit) (defBody sDInit) (defScope sDInit) .none (.ref TKZ) dcZ pmZ anZ cdZ ctZ), slZ⟩)
    (cZ : PySem.W.codeIn K cdZ "Drop.__init__" = true)
    (kZ : PySem.W.keepIn K (.ref fZ) = true)
    (qZmost : PySem.W.nsIn K TKZ "most" = some (some (.none)))
    (qZby : PySem.W.nsIn K TKZ "by" = some (some (.ref aBD)))
    (qZwhen : PySem.W.nsIn K TKZ "when" = some (some (.none)))
    (qZmust : PySem.W.nsIn K TKZ "must" = some (some (.bool false)))
    (qZhow : PySem.W.nsIn K TKZ "how" = some (some (.str "words" tkZ)))
    (iU : PySem.W.findIn K (.ref CH) "__init__" = some (some (.ref fU)))
    (fnU : PySem.W.isFn K (.ref fU) = true)
    (lU : K.lookup fU = some ⟨ocU, odU, .func (PySem.W.fnOf "__init__" "Change.__init__" (defArgs sCInit) (defBody sCInit) (defScope sCInit) .none (.ref TKU) dcU pmU anU cdU ctU), slU⟩)
    (cU : PySem.W.codeIn K cdU "Change.__init__" = true)
    (kU : PySem.W.keepIn K (.ref fU) = true)
    (qUby : PySem.W.nsIn K TKU "by" = some (some (.ref aBC)))
    (qUwhen : PySem.W.nsIn K TKU "when" = some (some (.none)))
    (qUmust : PySem.W.nsIn K TKU "must" = some (some (.bool false)))
    (qUhow : PySem.W.nsIn K TKU "how" = some (some (.str "words" tkU)))
    (lEBD : K.lookup aBD = some ⟨.type "tuple", oEBD, .seq #[] nEBD, sEBD⟩)
    (ipto : PySem.W.findIn K (.ref CP) "told" = some (some (.ref fpto)))
    (fnpto : PySem.W.isFn K (.ref fpto) = true)
    (lpto : K.lookup fpto = some ⟨ocpto, odpto, .func (PySem.W.fnOf "told" "Put.told" (defArgs sPTold) (defBody sPTold) (defScope sPTold) .none kVpto dcpto pmpto anpto cdpto ctpto), slpto⟩)
    (cpto : PySem.W.codeIn K cdpto "Put.told" = true)
    (kpto : PySem.W.keepIn K (.ref fpto) = true)
    (ipbn : PySem.W.findIn K (.ref CP) "by_number" = some (some (.ref fpbn)))
    (fnpbn : PySem.W.isFn K (.ref fpbn) = true)
    (lpbn : K.lookup fpbn = some ⟨ocpbn, odpbn, .func (PySem.W.fnOf "by_number" "Put.by_number" (defArgs sPByN) (defBody sPByN) (defScope sPByN) .none kVpbn dcpbn pmpbn anpbn cdpbn ctpbn), slpbn⟩)
    (cpbn : PySem.W.codeIn K cdpbn "Put.by_number" = true)
    (kpbn : PySem.W.keepIn K (.ref fpbn) = true)
    (ippr : PySem.W.findIn K (.ref CP) "_parts" = some (some (.ref fppr)))
    (fnppr : PySem.W.isFn K (.ref fppr) = true)
    (lppr : K.lookup fppr = some ⟨ocppr, odppr, .func (PySem.W.fnOf "_parts" "Put._parts" (defArgs sPPrt) (defBody sPPrt) (defScope sPPrt) .none kVppr dcppr pmppr anppr cdppr ctppr), slppr⟩)
    (cppr : PySem.W.codeIn K cdppr "Put._parts" = true)
    (kppr : PySem.W.keepIn K (.ref fppr) = true)
    (ipqe : PySem.W.findIn K (.ref CP) "__eq__" = some (some (.ref fpqe)))
    (fnpqe : PySem.W.isFn K (.ref fpqe) = true)
    (lpqe : K.lookup fpqe = some ⟨ocpqe, odpqe, .func (PySem.W.fnOf "__eq__" "Put.__eq__" (defArgs sPEq) (defBody sPEq) (defScope sPEq) .none kVpqe dcpqe pmpqe anpqe cdpqe ctpqe), slpqe⟩)
    (cpqe : PySem.W.codeIn K cdpqe "Put.__eq__" = true)
    (kpqe : PySem.W.keepIn K (.ref fpqe) = true)
    (idto : PySem.W.findIn K (.ref CD) "told" = some (some (.ref fdto)))
    (fndto : PySem.W.isFn K (.ref fdto) = true)
    (ldto : K.lookup fdto = some ⟨ocdto, oddto, .func (PySem.W.fnOf "told" "Drop.told" (defArgs sDTold) (defBody sDTold) (defScope sDTold) .none kVdto dcdto pmdto andto cddto ctdto), sldto⟩)
    (cdto : PySem.W.codeIn K cddto "Drop.told" = true)
    (kdto : PySem.W.keepIn K (.ref fdto) = true)
    (idbn : PySem.W.findIn K (.ref CD) "by_number" = some (some (.ref fdbn)))
    (fndbn : PySem.W.isFn K (.ref fdbn) = true)
    (ldbn : K.lookup fdbn = some ⟨ocdbn, oddbn, .func (PySem.W.fnOf "by_number" "Drop.by_number" (defArgs sDByN) (defBody sDByN) (defScope sDByN) .none kVdbn dcdbn pmdbn andbn cddbn ctdbn), sldbn⟩)
    (cdbn : PySem.W.codeIn K cddbn "Drop.by_number" = true)
    (kdbn : PySem.W.keepIn K (.ref fdbn) = true)
    (idpr : PySem.W.findIn K (.ref CD) "_parts" = some (some (.ref fdpr)))
    (fndpr : PySem.W.isFn K (.ref fdpr) = true)
    (ldpr : K.lookup fdpr = some ⟨ocdpr, oddpr, .func (PySem.W.fnOf "_parts" "Drop._parts" (defArgs sDPrt) (defBody sDPrt) (defScope sDPrt) .none kVdpr dcdpr pmdpr andpr cddpr ctdpr), sldpr⟩)
    (cdpr : PySem.W.codeIn K cddpr "Drop._parts" = true)
    (kdpr : PySem.W.keepIn K (.ref fdpr) = true)
    (idqe : PySem.W.findIn K (.ref CD) "__eq__" = some (some (.ref fdqe)))
    (fndqe : PySem.W.isFn K (.ref fdqe) = true)
    (ldqe : K.lookup fdqe = some ⟨ocdqe, oddqe, .func (PySem.W.fnOf "__eq__" "Drop.__eq__" (defArgs sDEq) (defBody sDEq) (defScope sDEq) .none kVdqe dcdqe pmdqe andqe cddqe ctdqe), sldqe⟩)
    (cdqe : PySem.W.codeIn K cddqe "Drop.__eq__" = true)
    (kdqe : PySem.W.keepIn K (.ref fdqe) = true)
    (ihto : PySem.W.findIn K (.ref CH) "told" = some (some (.ref fhto)))
    (fnhto : PySem.W.isFn K (.ref fhto) = true)
    (lhto : K.lookup fhto = some ⟨ochto, odhto, .func (PySem.W.fnOf "told" "Change.told" (defArgs sCTold) (defBody sCTold) (defScope sCTold) .none kVhto dchto pmhto anhto cdhto cthto), slhto⟩)
    (chto : PySem.W.codeIn K cdhto "Change.told" = true)
    (khto : PySem.W.keepIn K (.ref fhto) = true)
    (ihbn : PySem.W.findIn K (.ref CH) "by_number" = some (some (.ref fhbn)))
    (fnhbn : PySem.W.isFn K (.ref fhbn) = true)
    (lhbn : K.lookup fhbn = some ⟨ochbn, odhbn, .func (PySem.W.fnOf "by_number" "Change.by_number" (defArgs sCByN) (defBody sCByN) (defScope sCByN) .none kVhbn dchbn pmhbn anhbn cdhbn cthbn), slhbn⟩)
    (chbn : PySem.W.codeIn K cdhbn "Change.by_number" = true)
    (khbn : PySem.W.keepIn K (.ref fhbn) = true)
    (ihpr : PySem.W.findIn K (.ref CH) "_parts" = some (some (.ref fhpr)))
    (fnhpr : PySem.W.isFn K (.ref fhpr) = true)
    (lhpr : K.lookup fhpr = some ⟨ochpr, odhpr, .func (PySem.W.fnOf "_parts" "Change._parts" (defArgs sCPrt) (defBody sCPrt) (defScope sCPrt) .none kVhpr dchpr pmhpr anhpr cdhpr cthpr), slhpr⟩)
    (chpr : PySem.W.codeIn K cdhpr "Change._parts" = true)
    (khpr : PySem.W.keepIn K (.ref fhpr) = true)
    (ihqe : PySem.W.findIn K (.ref CH) "__eq__" = some (some (.ref fhqe)))
    (fnhqe : PySem.W.isFn K (.ref fhqe) = true)
    (lhqe : K.lookup fhqe = some ⟨ochqe, odhqe, .func (PySem.W.fnOf "__eq__" "Change.__eq__" (defArgs sCEq) (defBody sCEq) (defScope sCEq) .none kVhqe dchqe pmhqe anhqe cdhqe cthqe), slhqe⟩)
    (chqe : PySem.W.codeIn K cdhqe "Change.__eq__" = true)
    (khqe : PySem.W.keepIn K (.ref fhqe) = true)
    (aaxs : PySem.W.nsIn K mainGlobals "_axes" = some (some (.ref faxs)))
    (laxs : K.lookup faxs = some ⟨ocaxs, odaxs, .func (PySem.W.fnOf "_axes" "_axes" (defArgs sAxes) (defBody sAxes) (defScope sAxes) .none kVaxs dcaxs pmaxs anaxs cdaxs ctaxs), slaxs⟩)
    (caxs : PySem.W.codeIn K cdaxs "_axes" = true)
    (kaxs : PySem.W.keepIn K (.ref faxs) = true)
    (afbb : PySem.W.nsIn K mainGlobals "_found_by_both" = some (some (.ref ffbb)))
    (lfbb : K.lookup ffbb = some ⟨ocfbb, odfbb, .func (PySem.W.fnOf "_found_by_both" "_found_by_both" (defArgs sBoth) (defBody sBoth) (defScope sBoth) .none kVfbb dcfbb pmfbb anfbb cdfbb ctfbb), slfbb⟩)
    (cfbb : PySem.W.codeIn K cdfbb "_found_by_both" = true)
    (kfbb : PySem.W.keepIn K (.ref ffbb) = true)
    (afal : PySem.W.nsIn K mainGlobals "_find_alike" = some (some (.ref ffal)))
    (lfal : K.lookup ffal = some ⟨ocfal, odfal, .func (PySem.W.fnOf "_find_alike" "_find_alike" (defArgs sAlike) (defBody sAlike) (defScope sAlike) .none kVfal dcfal pmfal anfal cdfal ctfal), slfal⟩)
    (cfal : PySem.W.codeIn K cdfal "_find_alike" = true)
    (kfal : PySem.W.keepIn K (.ref ffal) = true)
    (asrc : PySem.W.nsIn K mainGlobals "_is_source" = some (some (.ref fsrc)))
    (lsrc : K.lookup fsrc = some ⟨ocsrc, odsrc, .func (PySem.W.fnOf "_is_source" "_is_source" (defArgs sSrc) (defBody sSrc) (defScope sSrc) .none kVsrc dcsrc pmsrc ansrc cdsrc ctsrc), slsrc⟩)
    (csrc : PySem.W.codeIn K cdsrc "_is_source" = true)
    (ksrc : PySem.W.keepIn K (.ref fsrc) = true)
    (amom : PySem.W.nsIn K mainGlobals "_is_moment" = some (some (.ref fmom)))
    (lmom : K.lookup fmom = some ⟨ocmom, odmom, .func (PySem.W.fnOf "_is_moment" "_is_moment" (defArgs sMo) (defBody sMo) (defScope sMo) .none kVmom dcmom pmmom anmom cdmom ctmom), slmom⟩)
    (cmom : PySem.W.codeIn K cdmom "_is_moment" = true)
    (kmom : PySem.W.keepIn K (.ref fmom) = true)
    (acap : PySem.W.nsIn K mainGlobals "_can_be_put" = some (some (.ref fcap)))
    (lcap : K.lookup fcap = some ⟨occap, odcap, .func (PySem.W.fnOf "_can_be_put" "_can_be_put" (defArgs sCanP) (defBody sCanP) (defScope sCanP) .none kVcap dccap pmcap ancap cdcap ctcap), slcap⟩)
    (ccap : PySem.W.codeIn K cdcap "_can_be_put" = true)
    (kcap : PySem.W.keepIn K (.ref fcap) = true)
    (aisc : PySem.W.nsIn K mainGlobals "_is_change" = some (some (.ref fisc)))
    (lisc : K.lookup fisc = some ⟨ocisc, odisc, .func (PySem.W.fnOf "_is_change" "_is_change" (defArgs sIsc) (defBody sIsc) (defScope sIsc) .none kVisc dcisc pmisc anisc cdisc ctisc), slisc⟩)
    (cisc : PySem.W.codeIn K cdisc "_is_change" = true)
    (kisc : PySem.W.keepIn K (.ref fisc) = true)
    (aarc : PySem.W.nsIn K mainGlobals "_are_changes" = some (some (.ref farc)))
    (larc : K.lookup farc = some ⟨ocarc, odarc, .func (PySem.W.fnOf "_are_changes" "_are_changes" (defArgs sArc) (defBody sArc) (defScope sArc) .none kVarc dcarc pmarc anarc cdarc ctarc), slarc⟩)
    (carc : PySem.W.codeIn K cdarc "_are_changes" = true)
    (karc : PySem.W.keepIn K (.ref farc) = true)
    (acop : PySem.W.nsIn K mainGlobals "_copied_change" = some (some (.ref fcop)))
    (lcop : K.lookup fcop = some ⟨occop, odcop, .func (PySem.W.fnOf "_copied_change" "_copied_change" (defArgs sCop) (defBody sCop) (defScope sCop) .none kVcop dccop pmcop ancop cdcop ctcop), slcop⟩)
    (ccop : PySem.W.codeIn K cdcop "_copied_change" = true)
    (kcop : PySem.W.keepIn K (.ref fcop) = true)
    (acos : PySem.W.nsIn K mainGlobals "_copied_changes" = some (some (.ref fcos)))
    (lcos : K.lookup fcos = some ⟨occos, odcos, .func (PySem.W.fnOf "_copied_changes" "_copied_changes" (defArgs sCos) (defBody sCos) (defScope sCos) .none kVcos dccos pmcos ancos cdcos ctcos), slcos⟩)
    (ccos : PySem.W.codeIn K cdcos "_copied_changes" = true)
    (kcos : PySem.W.keepIn K (.ref fcos) = true)
    (acog : PySem.W.nsIn K mainGlobals "_copied_guard" = some (some (.ref fcog)))
    (lcog : K.lookup fcog = some ⟨occog, odcog, .func (PySem.W.fnOf "_copied_guard" "_copied_guard" (defArgs sCog) (defBody sCog) (defScope sCog) .none kVcog dccog pmcog ancog cdcog ctcog), slcog⟩)
    (ccog : PySem.W.codeIn K cdcog "_copied_guard" = true)
    (kcog : PySem.W.keepIn K (.ref fcog) = true)
    (agua : PySem.W.nsIn K mainGlobals "_is_guard" = some (some (.ref fgua)))
    (lgua : K.lookup fgua = some ⟨ocgua, odgua, .func (PySem.W.fnOf "_is_guard" "_is_guard" (defArgs sGd) (defBody sGd) (defScope sGd) .none kVgua dcgua pmgua angua cdgua ctgua), slgua⟩)
    (cgua : PySem.W.codeIn K cdgua "_is_guard" = true)
    (kgua : PySem.W.keepIn K (.ref fgua) = true)
    (aord : PySem.W.nsIn K mainGlobals "_is_order" = some (some (.ref ford)))
    (lord : K.lookup ford = some ⟨ocord, odord, .func (PySem.W.fnOf "_is_order" "_is_order" (defArgs sOrd) (defBody sOrd) (defScope sOrd) .none kVord dcord pmord anord cdord ctord), slord⟩)
    (cord : PySem.W.codeIn K cdord "_is_order" = true)
    (kord : PySem.W.keepIn K (.ref ford) = true)
    (acho : PySem.W.nsIn K mainGlobals "_check_order" = some (some (.ref fcho)))
    (lcho : K.lookup fcho = some ⟨occho, odcho, .func (PySem.W.fnOf "_check_order" "_check_order" (defArgs sChO) (defBody sChO) (defScope sChO) .none kVcho dccho pmcho ancho cdcho ctcho), slcho⟩)
    (ccho : PySem.W.codeIn K cdcho "_check_order" = true)
    (kcho : PySem.W.keepIn K (.ref fcho) = true)
    (ache : PySem.W.nsIn K mainGlobals "_check_end" = some (some (.ref fche)))
    (lche : K.lookup fche = some ⟨ocche, odche, .func (PySem.W.fnOf "_check_end" "_check_end" (defArgs sChk) (defBody sChk) (defScope sChk) .none kVche dcche pmche anche cdche ctche), slche⟩)
    (cche : PySem.W.codeIn K cdche "_check_end" = true)
    (kche : PySem.W.keepIn K (.ref fche) = true)
    (aoby : PySem.W.nsIn K mainGlobals "_ordered_by_number" = some (some (.ref foby)))
    (loby : K.lookup foby = some ⟨ocoby, odoby, .func (PySem.W.fnOf "_ordered_by_number" "_ordered_by_number" (defArgs sOby) (defBody sOby) (defScope sOby) .none kVoby dcoby pmoby anoby cdoby ctoby), sloby⟩)
    (coby : PySem.W.codeIn K cdoby "_ordered_by_number" = true)
    (koby : PySem.W.keepIn K (.ref foby) = true)
    (sCL : PySem.W.subIn K (.ref C) (.ref C3) = some false)
    (sLL : PySem.W.subIn K (.ref C3) (.ref C3) = some true)
    (sPP : PySem.W.subIn K (.ref CP) (.ref CP) = some true)
    (sDP : PySem.W.subIn K (.ref CD) (.ref CP) = some false)
    (sHP : PySem.W.subIn K (.ref CH) (.ref CP) = some false)
    (sLP : PySem.W.subIn K (.ref C3) (.ref CP) = some false)
    (sDD : PySem.W.subIn K (.ref CD) (.ref CD) = some true)
    (sPD : PySem.W.subIn K (.ref CP) (.ref CD) = some false)
    (sHD : PySem.W.subIn K (.ref CH) (.ref CD) = some false)
    (sLD : PySem.W.subIn K (.ref C3) (.ref CD) = some false)
    (sHH : PySem.W.subIn K (.ref CH) (.ref CH) = some true)
    (sPH : PySem.W.subIn K (.ref CP) (.ref CH) = some false)
    (sDH : PySem.W.subIn K (.ref CD) (.ref CH) = some false)
    (sLH : PySem.W.subIn K (.ref C3) (.ref CH) = some false)
    (apick : PySem.W.nsIn K mainGlobals "_law_pick" = some (some (.ref fpick)))
    (lpick : K.lookup fpick = some ⟨ocpick, odpick, .func (PySem.W.fnOf "_law_pick" "_law_pick" (defArgs sPick) (defBody sPick) (defScope sPick) .none kVpick dcpick pmpick anpick cdpick ctpick), slpick⟩)
    (cpick : PySem.W.codeIn K cdpick "_law_pick" = true)
    (kpick : PySem.W.keepIn K (.ref fpick) = true)
    (adraw : PySem.W.nsIn K mainGlobals "_law_draw" = some (some (.ref fdraw)))
    (ldraw : K.lookup fdraw = some ⟨ocdraw, oddraw, .func (PySem.W.fnOf "_law_draw" "_law_draw" (defArgs sDraw) (defBody sDraw) (defScope sDraw) .none kVdraw dcdraw pmdraw andraw cddraw ctdraw), sldraw⟩)
    (cdraw : PySem.W.codeIn K cddraw "_law_draw" = true)
    (kdraw : PySem.W.keepIn K (.ref fdraw) = true)
    (astart : PySem.W.nsIn K mainGlobals "_law_start" = some (some (.ref fstart)))
    (lstart : K.lookup fstart = some ⟨ocstart, odstart, .func (PySem.W.fnOf "_law_start" "_law_start" (defArgs sStart) (defBody sStart) (defScope sStart) .none kVstart dcstart pmstart anstart cdstart ctstart), slstart⟩)
    (cstart : PySem.W.codeIn K cdstart "_law_start" = true)
    (kstart : PySem.W.keepIn K (.ref fstart) = true)
    (aword : PySem.W.nsIn K mainGlobals "_law_word" = some (some (.ref fword)))
    (lword : K.lookup fword = some ⟨ocword, odword, .func (PySem.W.fnOf "_law_word" "_law_word" (defArgs sWord) (defBody sWord) (defScope sWord) .none kVword dcword pmword anword cdword ctword), slword⟩)
    (cword : PySem.W.codeIn K cdword "_law_word" = true)
    (kword : PySem.W.keepIn K (.ref fword) = true)
    (awords : PySem.W.nsIn K mainGlobals "_law_words" = some (some (.ref fwords)))
    (lwords : K.lookup fwords = some ⟨ocwords, odwords, .func (PySem.W.fnOf "_law_words" "_law_words" (defArgs sWords) (defBody sWords) (defScope sWords) .none kVwords dcwords pmwords anwords cdwords ctwords), slwords⟩)
    (cwords : PySem.W.codeIn K cdwords "_law_words" = true)
    (kwords : PySem.W.keepIn K (.ref fwords) = true)
    (awo : PySem.W.nsIn K mainGlobals "_law_world" = some (some (.ref fwo)))
    (lwo : K.lookup fwo = some ⟨ocwo, odwo, .func (PySem.W.fnOf "_law_world" "_law_world" (defArgs sWorld) (defBody sWorld) (defScope sWorld) .none kVwo dcwo pmwo anwo cdwo ctwo), slwo⟩)
    (cwo : PySem.W.codeIn K cdwo "_law_world" = true)
    (kwo : PySem.W.keepIn K (.ref fwo) = true)
    (acof : PySem.W.nsIn K mainGlobals "_law_columns" = some (some (.ref fcof)))
    (lcof : K.lookup fcof = some ⟨occof, odcof, .func (PySem.W.fnOf "_law_columns" "_law_columns" (defArgs sColsOf) (defBody sColsOf) (defScope sColsOf) .none kVcof dccof pmcof ancof cdcof ctcof), slcof⟩)
    (ccof : PySem.W.codeIn K cdcof "_law_columns" = true)
    (kcof : PySem.W.keepIn K (.ref fcof) = true)
    (ale : PySem.W.nsIn K mainGlobals "_law_letters" = some (some (.ref fle)))
    (lle : K.lookup fle = some ⟨ocle, odle, .func (PySem.W.fnOf "_law_letters" "_law_letters" (defArgs sLetters) (defBody sLetters) (defScope sLetters) .none kVle dcle pmle anle cdle ctle), slle⟩)
    (cle : PySem.W.codeIn K cdle "_law_letters" = true)
    (kle : PySem.W.keepIn K (.ref fle) = true)
    (aspr : PySem.W.nsIn K mainGlobals "_law_spare" = some (some (.ref fspr)))
    (lspr : K.lookup fspr = some ⟨ocspr, odspr, .func (PySem.W.fnOf "_law_spare" "_law_spare" (defArgs sSpare) (defBody sSpare) (defScope sSpare) .none kVspr dcspr pmspr anspr cdspr ctspr), slspr⟩)
    (cspr : PySem.W.codeIn K cdspr "_law_spare" = true)
    (kspr : PySem.W.keepIn K (.ref fspr) = true)
    (asame : PySem.W.nsIn K mainGlobals "_law_same" = some (some (.ref fsame)))
    (lsame : K.lookup fsame = some ⟨ocsame, odsame, .func (PySem.W.fnOf "_law_same" "_law_same" (defArgs sSame) (defBody sSame) (defScope sSame) .none kVsame dcsame pmsame ansame cdsame ctsame), slsame⟩)
    (csame : PySem.W.codeIn K cdsame "_law_same" = true)
    (ksame : PySem.W.keepIn K (.ref fsame) = true)
    (asom : PySem.W.nsIn K mainGlobals "_law_some" = some (some (.ref fsom)))
    (lsom : K.lookup fsom = some ⟨ocsom, odsom, .func (PySem.W.fnOf "_law_some" "_law_some" (defArgs sLSome) (defBody sLSome) (defScope sLSome) .none kVsom dcsom pmsom ansom cdsom ctsom), slsom⟩)
    (csom : PySem.W.codeIn K cdsom "_law_some" = true)
    (ksom : PySem.W.keepIn K (.ref fsom) = true)
    (aslk : PySem.W.nsIn K mainGlobals "_law_simple_look" = some (some (.ref fslk)))
    (lslk : K.lookup fslk = some ⟨ocslk, odslk, .func (PySem.W.fnOf "_law_simple_look" "_law_simple_look" (defArgs sSLook) (defBody sSLook) (defScope sSLook) .none kVslk dcslk pmslk anslk cdslk ctslk), slslk⟩)
    (cslk : PySem.W.codeIn K cdslk "_law_simple_look" = true)
    (kslk : PySem.W.keepIn K (.ref fslk) = true)
    (alok : PySem.W.nsIn K mainGlobals "_law_look" = some (some (.ref flok)))
    (llok : K.lookup flok = some ⟨oclok, odlok, .func (PySem.W.fnOf "_law_look" "_law_look" (defArgs sLook) (defBody sLook) (defScope sLook) .none kVlok dclok pmlok anlok cdlok ctlok), sllok⟩)
    (clok : PySem.W.codeIn K cdlok "_law_look" = true)
    (klok : PySem.W.keepIn K (.ref flok) = true)
    (alof : PySem.W.nsIn K mainGlobals "_law_look_of" = some (some (.ref flof)))
    (llof : K.lookup flof = some ⟨oclof, odlof, .func (PySem.W.fnOf "_law_look_of" "_law_look_of" (defArgs sLookOf) (defBody sLookOf) (defScope sLookOf) .none kVlof dclof pmlof anlof cdlof ctlof), sllof⟩)
    (clof : PySem.W.codeIn K cdlof "_law_look_of" = true)
    (klof : PySem.W.keepIn K (.ref flof) = true)
    (ahld : PySem.W.nsIn K mainGlobals "_law_holds" = some (some (.ref fhld)))
    (lhld : K.lookup fhld = some ⟨ochld, odhld, .func (PySem.W.fnOf "_law_holds" "_law_holds" (defArgs sHolds) (defBody sHolds) (defScope sHolds) .none kVhld dchld pmhld anhld cdhld cthld), slhld⟩)
    (chld : PySem.W.codeIn K cdhld "_law_holds" = true)
    (khld : PySem.W.keepIn K (.ref fhld) = true)
    (afds : PySem.W.nsIn K mainGlobals "_law_look_finds" = some (some (.ref ffds)))
    (lfds : K.lookup ffds = some ⟨ocfds, odfds, .func (PySem.W.fnOf "_law_look_finds" "_law_look_finds" (defArgs sFinds) (defBody sFinds) (defScope sFinds) .none kVfds dcfds pmfds anfds cdfds ctfds), slfds⟩)
    (cfds : PySem.W.codeIn K cdfds "_law_look_finds" = true)
    (kfds : PySem.W.keepIn K (.ref ffds) = true)
    (alsr : PySem.W.nsIn K mainGlobals "_law_source" = some (some (.ref flsr)))
    (llsr : K.lookup flsr = some ⟨oclsr, odlsr, .func (PySem.W.fnOf "_law_source" "_law_source" (defArgs sSource) (defBody sSource) (defScope sSource) .none kVlsr dclsr pmlsr anlsr cdlsr ctlsr), sllsr⟩)
    (clsr : PySem.W.codeIn K cdlsr "_law_source" = true)
    (klsr : PySem.W.keepIn K (.ref flsr) = true)
    (alch : PySem.W.nsIn K mainGlobals "_law_change" = some (some (.ref flch)))
    (llch : K.lookup flch = some ⟨oclch, odlch, .func (PySem.W.fnOf "_law_change" "_law_change" (defArgs sChange) (defBody sChange) (defScope sChange) .none kVlch dclch pmlch anlch cdlch ctlch), sllch⟩)
    (clch : PySem.W.codeIn K cdlch "_law_change" = true)
    (klch : PySem.W.keepIn K (.ref flch) = true)
    (aodr : PySem.W.nsIn K mainGlobals "_law_order" = some (some (.ref fodr)))
    (lodr : K.lookup fodr = some ⟨ocodr, ododr, .func (PySem.W.fnOf "_law_order" "_law_order" (defArgs sOrder) (defBody sOrder) (defScope sOrder) .none kVodr dcodr pmodr anodr cdodr ctodr), slodr⟩)
    (codr : PySem.W.codeIn K cdodr "_law_order" = true)
    (kodr : PySem.W.keepIn K (.ref fodr) = true)
    (abar : PySem.W.nsIn K mainGlobals "_law_bare" = some (some (.ref fbar)))
    (lbar : K.lookup fbar = some ⟨ocbar, odbar, .func (PySem.W.fnOf "_law_bare" "_law_bare" (defArgs sBare) (defBody sBare) (defScope sBare) .none kVbar dcbar pmbar anbar cdbar ctbar), slbar⟩)
    (cbar : PySem.W.codeIn K cdbar "_law_bare" = true)
    (kbar : PySem.W.keepIn K (.ref fbar) = true)
    (alpu : PySem.W.nsIn K mainGlobals "_law_put" = some (some (.ref flpu)))
    (llpu : K.lookup flpu = some ⟨oclpu, odlpu, .func (PySem.W.fnOf "_law_put" "_law_put" (defArgs sPut) (defBody sPut) (defScope sPut) .none kVlpu dclpu pmlpu anlpu cdlpu ctlpu), sllpu⟩)
    (clpu : PySem.W.codeIn K cdlpu "_law_put" = true)
    (klpu : PySem.W.keepIn K (.ref flpu) = true)
    (asta : PySem.W.nsIn K mainGlobals "_law_statement" = some (some (.ref fsta)))
    (lsta : K.lookup fsta = some ⟨ocsta, odsta, .func (PySem.W.fnOf "_law_statement" "_law_statement" (defArgs sStat) (defBody sStat) (defScope sStat) .none kVsta dcsta pmsta ansta cdsta ctsta), slsta⟩)
    (csta : PySem.W.codeIn K cdsta "_law_statement" = true)
    (ksta : PySem.W.keepIn K (.ref fsta) = true)
    (almd : PySem.W.nsIn K mainGlobals "_law_made" = some (some (.ref flmd)))
    (llmd : K.lookup flmd = some ⟨oclmd, odlmd, .func (PySem.W.fnOf "_law_made" "_law_made" (defArgs sMade) (defBody sMade) (defScope sMade) .none kVlmd dclmd pmlmd anlmd cdlmd ctlmd), sllmd⟩)
    (clmd : PySem.W.codeIn K cdlmd "_law_made" = true)
    (klmd : PySem.W.keepIn K (.ref flmd) = true)
    (alik : PySem.W.nsIn K mainGlobals "_law_is_like" = some (some (.ref flik)))
    (llik : K.lookup flik = some ⟨oclik, odlik, .func (PySem.W.fnOf "_law_is_like" "_law_is_like" (defArgs sLike) (defBody sLike) (defScope sLike) .none kVlik dclik pmlik anlik cdlik ctlik), sllik⟩)
    (clik : PySem.W.codeIn K cdlik "_law_is_like" = true)
    (klik : PySem.W.keepIn K (.ref flik) = true)
    (awip : PySem.W.nsIn K mainGlobals "_law_with_part" = some (some (.ref fwip)))
    (lwip : K.lookup fwip = some ⟨ocwip, odwip, .func (PySem.W.fnOf "_law_with_part" "_law_with_part" (defArgs sWith) (defBody sWith) (defScope sWith) .none kVwip dcwip pmwip anwip cdwip ctwip), slwip⟩)
    (cwip : PySem.W.codeIn K cdwip "_law_with_part" = true)
    (kwip : PySem.W.keepIn K (.ref fwip) = true)
    (awid : PySem.W.nsIn K mainGlobals "_law_wide" = some (some (.ref fwid)))
    (lwid : K.lookup fwid = some ⟨ocwid, odwid, .func (PySem.W.fnOf "_law_wide" "_law_wide" (defArgs sWide) (defBody sWide) (defScope sWide) .none kVwid dcwid pmwid anwid cdwid ctwid), slwid⟩)
    (cwid : PySem.W.codeIn K cdwid "_law_wide" = true)
    (kwid : PySem.W.keepIn K (.ref fwid) = true)
    (anud : PySem.W.nsIn K mainGlobals "_law_numbered_by" = some (some (.ref fnud)))
    (lnud : K.lookup fnud = some ⟨ocnud, odnud, .func (PySem.W.fnOf "_law_numbered_by" "_law_numbered_by" (defArgs sNumd) (defBody sNumd) (defScope sNumd) .none kVnud dcnud pmnud annud cdnud ctnud), slnud⟩)
    (cnud : PySem.W.codeIn K cdnud "_law_numbered_by" = true)
    (knud : PySem.W.keepIn K (.ref fnud) = true)
    (aben : PySem.W.nsIn K mainGlobals "_law_bent" = some (some (.ref fben)))
    (lben : K.lookup fben = some ⟨ocben, odben, .func (PySem.W.fnOf "_law_bent" "_law_bent" (defArgs sBent) (defBody sBent) (defScope sBent) .none kVben dcben pmben anben cdben ctben), slben⟩)
    (cben : PySem.W.codeIn K cdben "_law_bent" = true)
    (kben : PySem.W.keepIn K (.ref fben) = true)
    (asho : PySem.W.nsIn K mainGlobals "_law_shows" = some (some (.ref fsho)))
    (lsho : K.lookup fsho = some ⟨ocsho, odsho, .func (PySem.W.fnOf "_law_shows" "_law_shows" (defArgs sShows) (defBody sShows) (defScope sShows) .none kVsho dcsho pmsho ansho cdsho ctsho), slsho⟩)
    (csho : PySem.W.codeIn K cdsho "_law_shows" = true)
    (ksho : PySem.W.keepIn K (.ref fsho) = true)
    (alaw : PySem.W.nsIn K mainGlobals "law" = some (some (.ref flaw)))
    (llaw : K.lookup flaw = some ⟨oclaw, odlaw, .func (PySem.W.fnOf "law" "law" (defArgs sLaw) (defBody sLaw) (defScope sLaw) .none kVlaw dclaw pmlaw anlaw cdlaw ctlaw), sllaw⟩)
    (claw : PySem.W.codeIn K cdlaw "law" = true)
    (klaw : PySem.W.keepIn K (.ref flaw) = true)
    (z_len : PySem.W.nsIn K mainGlobals "len" = some none)
    (z_list : PySem.W.nsIn K mainGlobals "list" = some none)
    (z_tuple : PySem.W.nsIn K mainGlobals "tuple" = some none)
    (z_zip : PySem.W.nsIn K mainGlobals "zip" = some none)
    (z_enumerate : PySem.W.nsIn K mainGlobals "enumerate" = some none)
    (z_range : PySem.W.nsIn K mainGlobals "range" = some none)
    (z_any : PySem.W.nsIn K mainGlobals "any" = some none)
    (z_all : PySem.W.nsIn K mainGlobals "all" = some none)
    (z_isinstance : PySem.W.nsIn K mainGlobals "isinstance" = some none)
    (z_int : PySem.W.nsIn K mainGlobals "int" = some none)
    (z_str : PySem.W.nsIn K mainGlobals "str" = some none)
    (z_bool : PySem.W.nsIn K mainGlobals "bool" = some none)
    (z_dict : PySem.W.nsIn K mainGlobals "dict" = some none)
    (z_sum : PySem.W.nsIn K mainGlobals "sum" = some none)
    (z_set : PySem.W.nsIn K mainGlobals "set" = some none)
    (z_sorted : PySem.W.nsIn K mainGlobals "sorted" = some none) :
    ∃ fd : FuncData, (∀ (s : Shared) (v : Value), BindsTo s fd ⟨[v], []⟩ [("_law_script", v)]) ∧ ∀ base : Heap, K.In base → base.Ns mainGlobals mg → FnOk l.prog w K mg base CX0 14 fa fd ["_law_script"] (spLaw K) := by
  have e := hfa.symm.trans (PySem.W.mg_of X G alaw)
  cases e
  have FI : FunD K "__init__" "Columns.__init__" (defArgs sInit) (defBody sInit) (defScope sInit) [V.ref TEI] [] fI (PySem.W.fnOf "__init__" "Columns.__init__" (defArgs sInit) (defBody sInit) (defScope sInit) (.ref TDI) kVI dcI pmI anI cdI ctI) := ⟨⟨ocI, odI, .ref TDI, kVI, dcI, pmI, anI, cdI, ctI, slI, rfl, lI, cI, .inr ⟨by simp, TDI, _, [.ref TEI], nTI, rfl, lTDI, rfl, .cons rfl .nil⟩, .inl rfl⟩, kI⟩
  obtain ⟨dsI, vI, bI'⟩ := FI.binds1 (ps := ["self", "told", "free"]) 3 1 (by simp) rfl (fun T kV doc pm an cdv ct us its hl hl2 => match us, its, hl, hl2 with | [_, _, _], [_], _, _ => ⟨_, rfl, rfl⟩)
  have bI : Binds K (PySem.W.fnOf "__init__" "Columns.__init__" (defArgs sInit) (defBody sInit) (defScope sInit) (.ref TDI) kVI dcI pmI anI cdI ctI) ["self", "told", "free"] [] := by
    cases vI
    exact bI'
  have Fnam := fun_mk (st := sNames) lnam cnam knam
  have bnam := Fnam.binds (ps := ["self"]) fun _ _ _ _ _ _ us hl => match us, hl with | [_], _ => rfl
  have Fctv := fun_mk (st := sTV) lctv cctv kctv
  have bctv := Fctv.binds (ps := ["self", "name"]) fun _ _ _ _ _ _ us hl => match us, hl with | [_, _], _ => rfl
  have Fcln := fun_mk (st := sLen) lcln ccln kcln
  have bcln := Fcln.binds (ps := ["self"]) fun _ _ _ _ _ _ us hl => match us, hl with | [_], _ => rfl
  have Fcin := fun_mk (st := sIn) lcin ccin kcin
  have bcin := Fcin.binds (ps := ["self", "thing"]) fun _ _ _ _ _ _ us hl => match us, hl with | [_, _], _ => rfl
  have Fceq := fun_mk (st := sEq) lceq cceq kceq
  have bceq := Fceq.binds (ps := ["self", "other"]) fun _ _ _ _ _ _ us hl => match us, hl with | [_, _], _ => rfl
  have FisNu := fun_mk (st := sIsNu) lisNu cisNu kisNu
  have bisNu := FisNu.binds (ps := ["thing"]) fun _ _ _ _ _ _ us hl => match us, hl with | [_], _ => rfl
  have FisW := fun_mk (st := sIsW) lisW cisW kisW
  have bisW := FisW.binds (ps := ["thing"]) fun _ _ _ _ _ _ us hl => match us, hl with | [_], _ => rfl
  have FisL := fun_mk (st := sIsL) lisL cisL kisL
  have bisL := FisL.binds (ps := ["thing"]) fun _ _ _ _ _ _ us hl => match us, hl with | [_], _ => rfl
  have FisN := fun_mk (st := sIsN) lisN cisN kisN
  have bisN := FisN.binds (ps := ["thing"]) fun _ _ _ _ _ _ us hl => match us, hl with | [_], _ => rfl
  have Fare := fun_mk (st := sAre) lare care kare
  have bare := Fare.binds (ps := ["thing"]) fun _ _ _ _ _ _ us hl => match us, hl with | [_], _ => rfl
  have Ftold := fun_mk (st := sTold) ltold ctold ktold
  have btold := Ftold.binds (ps := ["thing"]) fun _ _ _ _ _ _ us hl => match us, hl with | [_], _ => rfl
  have Fcan := fun_mk (st := sCan) lcan ccan kcan
  have bcan := Fcan.binds (ps := ["thing", "values"]) fun _ _ _ _ _ _ us hl => match us, hl with | [_, _], _ => rfl
  have FJ : FunD K "__init__" "Look.__init__" (defArgs sLInit) (defBody sLInit) (defScope sLInit) [] [] fJ (PySem.W.fnOf "__init__" "Look.__init__" (defArgs sLInit) (defBody sLInit) (defScope sLInit) .none kVJ dcJ pmJ anJ cdJ ctJ) := ⟨⟨ocJ, odJ, .none, kVJ, dcJ, pmJ, anJ, cdJ, ctJ, slJ, rfl, lJ, cJ, .inl ⟨rfl, rfl⟩, .inl rfl⟩, kJ⟩
  have GJ := fun_mk (st := sLInit) lJ cJ kJ
  have bJ := GJ.binds (ps := ["self", "columns", "steps"]) fun _ _ _ _ _ _ us hl => match us, hl with | [_, _, _], _ => rfl
  have Flfo := fun_mk (st := sFound) llfo clfo klfo
  have blfo := Flfo.binds (ps := ["self", "axes"]) fun _ _ _ _ _ _ us hl => match us, hl with | [_, _], _ => rfl
  have Flca := fun_mk (st := sLCall) llca clca klca
  have blca := Flca.binds (ps := ["self", "row", "number"]) fun _ _ _ _ _ _ us hl => match us, hl with | [_, _, _], _ => rfl
  have Flan := fun_mk (st := sLAnd) llan clan klan
  have blan := Flan.binds (ps := ["self", "other"]) fun _ _ _ _ _ _ us hl => match us, hl with | [_, _], _ => rfl
  have Flor := fun_mk (st := sLOr) llor clor klor
  have blor := Flor.binds (ps := ["self", "other"]) fun _ _ _ _ _ _ us hl => match us, hl with | [_, _], _ => rfl
  have Flsu := fun_mk (st := sLSub) llsu clsu klsu
  have blsu := Flsu.binds (ps := ["self", "other"]) fun _ _ _ _ _ _ us hl => match us, hl with | [_, _], _ => rfl
  have Flxo := fun_mk (st := sLXor) llxo clxo klxo
  have blxo := Flxo.binds (ps := ["self", "other"]) fun _ _ _ _ _ _ us hl => match us, hl with | [_, _], _ => rfl
  have Fliv := fun_mk (st := sLInv) lliv cliv kliv
  have bliv := Fliv.binds (ps := ["self"]) fun _ _ _ _ _ _ us hl => match us, hl with | [_], _ => rfl
  have Fcnt := fun_mk (st := sCount) lcnt ccnt kcnt
  have bcnt := Fcnt.binds (ps := ["axes"]) fun _ _ _ _ _ _ us hl => match us, hl with | [_], _ => rfl
  have Ffin := fun_mk (st := sFIn) lfin cfin kfin
  have bfin := Ffin.binds (ps := ["axes", "at", "things"]) fun _ _ _ _ _ _ us hl => match us, hl with | [_, _, _], _ => rfl
  have Ffsm := fun_mk (st := sFSame) lfsm cfsm kfsm
  have bfsm := Ffsm.binds (ps := ["axes", "first", "second"]) fun _ _ _ _ _ _ us hl => match us, hl with | [_, _, _], _ => rfl
  have Fjoi := fun_mk (st := sJoined) ljoi cjoi kjoi
  have bjoi := Fjoi.binds (ps := ["one", "other", "sign"]) fun _ _ _ _ _ _ us hl => match us, hl with | [_, _, _], _ => rfl
  have Fava := fun_mk (st := sAVal) lava cava kava
  have bava := Fava.binds (ps := ["things", "told"]) fun _ _ _ _ _ _ us hl => match us, hl with | [_, _], _ => rfl
  have Fanu := fun_mk (st := sANum) lanu canu kanu
  have banu := Fanu.binds (ps := ["things"]) fun _ _ _ _ _ _ us hl => match us, hl with | [_], _ => rfl
  have Fhas := fun_mk (st := sHas) lhas chas khas
  have bhas := Fhas.binds (ps := ["columns", "name", "values"]) fun _ _ _ _ _ _ us hl => match us, hl with | [_, _, _], _ => rfl
  have Fsm2 := fun_mk (st := sSame2) lsm2 csm2 ksm2
  have bsm2 := Fsm2.binds (ps := ["columns", "first", "second"]) fun _ _ _ _ _ _ us hl => match us, hl with | [_, _, _], _ => rfl
  have Fnmb := fun_mk (st := sNumb) lnmb cnmb knmb
  have bnmb := Fnmb.binds (ps := ["columns", "numbers"]) fun _ _ _ _ _ _ us hl => match us, hl with | [_, _], _ => rfl
  have Feve := fun_mk (st := sEvery) leve ceve keve
  have beve := Feve.binds (ps := ["columns"]) fun _ _ _ _ _ _ us hl => match us, hl with | [_], _ => rfl
  have Fleq := fun_mk (st := sLEq) lleq cleq kleq
  have bleq := Fleq.binds (ps := ["self", "other"]) fun _ _ _ _ _ _ us hl => match us, hl with | [_, _], _ => rfl
  have FQ : FunD K "__init__" "Put.__init__" (defArgs sPInit) (defBody sPInit) (defScope sPInit) [] [("when", V.non), ("how", V.str "words")] fQ (PySem.W.fnOf "__init__" "Put.__init__" (defArgs sPInit) (defBody sPInit) (defScope sPInit) .none (.ref TKQ) dcQ pmQ anQ cdQ ctQ) := ⟨⟨ocQ, odQ, .none, .ref TKQ, dcQ, pmQ, anQ, cdQ, ctQ, slQ, rfl, lQ, cQ, .inl ⟨rfl, rfl⟩, .inr ⟨TKQ, rfl, fun q hq => by
    cases hq with
    | head => exact ⟨_, qQwhen, rfl⟩
    | tail _ h1 =>
      cases h1 with
      | head => exact ⟨_, qQhow, ⟨_, rfl⟩⟩
      | tail _ h2 =>
        cases h2⟩⟩, kQ⟩
  obtain ⟨mvQ, kbQ⟩ := FQ.kbinds0 (ps := ["self", "columns", "row", "when", "how"]) 3 ["when", "how"] [] (fun us _ ws => us ++ ws) (by simp) (fun q hq => by cases hq) (fun r1 _ r3 => r1.append r3) (fun D doc pm an cdv ct us mv ws hl hl2 hl3 => match us, mv, ws, hl, hl2, hl3 with | [_, _, _], [], [_, _], _, _, _ => rfl)
  have FZ : FunD K "__init__" "Drop.__init__" (defArgs sDInit) (defBody sDInit) (defScope sDInit) [] [("most", V.non), ("by", V.ref aBD), ("when", V.non), ("must", V.bl false), ("how", V.str "words")] fZ (PySem.W.fnOf "__init__" "Drop.__init__" (defArgs sDInit) (defBody sDInit) (defScope sDInit) .none (.ref TKZ) dcZ pmZ anZ cdZ ctZ) := ⟨⟨ocZ, odZ, .none, .ref TKZ, dcZ, pmZ, anZ, cdZ, ctZ, slZ, rfl, lZ, cZ, .inl ⟨rfl, rfl⟩, .inr ⟨TKZ, rfl, fun q hq => by
    cases hq with
    | head => exact ⟨_, qZmost, rfl⟩
    | tail _ h1 =>
      cases h1 with
      | head => exact ⟨_, qZby, rfl⟩
      | tail _ h2 =>
        cases h2 with
        | head => exact ⟨_, qZwhen, rfl⟩
        | tail _ h3 =>
          cases h3 with
          | head => exact ⟨_, qZmust, rfl⟩
          | tail _ h4 =>
            cases h4 with
            | head => exact ⟨_, qZhow, ⟨_, rfl⟩⟩
            | tail _ h5 =>
              cases h5⟩⟩, kZ⟩
  obtain ⟨mvZ, kbZ⟩ := FZ.kbinds0 (ps := ["self", "look", "most", "by", "when", "must", "how"]) 2 ["most", "by", "when", "must", "how"] [] (fun us _ ws => us ++ ws) (by simp) (fun q hq => by cases hq) (fun r1 _ r3 => r1.append r3) (fun D doc pm an cdv ct us mv ws hl hl2 hl3 => match us, mv, ws, hl, hl2, hl3 with | [_, _], [], [_, _, _, _, _], _, _, _ => rfl)
  obtain ⟨dsZ, vZ, bZ⟩ := FZ.binds0 (ps := ["self", "look", "most", "by", "when", "must", "how"]) 2 (by simp) rfl (fun D doc pm an cdv ct us ks hl hl2 => match us, ks, hl, hl2 with | [_, _], [_, _, _, _, _], _, _ => ⟨_, _, _, _, _, _, rfl, rfl, _, _, _, _, _, _, rfl, rfl, _, _, _, _, _, _, rfl, rfl, _, _, _, _, _, _, rfl, rfl, _, _, _, _, _, _, rfl, rfl, rfl⟩)
  have FU : FunD K "__init__" "Change.__init__" (defArgs sCInit) (defBody sCInit) (defScope sCInit) [] [("by", V.ref aBC), ("when", V.non), ("must", V.bl false), ("how", V.str "words")] fU (PySem.W.fnOf "__init__" "Change.__init__" (defArgs sCInit) (defBody sCInit) (defScope sCInit) .none (.ref TKU) dcU pmU anU cdU ctU) := ⟨⟨ocU, odU, .none, .ref TKU, dcU, pmU, anU, cdU, ctU, slU, rfl, lU, cU, .inl ⟨rfl, rfl⟩, .inr ⟨TKU, rfl, fun q hq => by
    cases hq with
    | head => exact ⟨_, qUby, rfl⟩
    | tail _ h1 =>
      cases h1 with
      | head => exact ⟨_, qUwhen, rfl⟩
      | tail _ h2 =>
        cases h2 with
        | head => exact ⟨_, qUmust, rfl⟩
        | tail _ h3 =>
          cases h3 with
          | head => exact ⟨_, qUhow, ⟨_, rfl⟩⟩
          | tail _ h4 =>
            cases h4⟩⟩, kU⟩
  obtain ⟨mvU, kbU⟩ := FU.kbinds0 (ps := ["self", "look", "changes", "by", "when", "must", "how"]) 3 ["by", "when", "must", "how"] [] (fun us _ ws => us ++ ws) (by simp) (fun q hq => by cases hq) (fun r1 _ r3 => r1.append r3) (fun D doc pm an cdv ct us mv ws hl hl2 hl3 => match us, mv, ws, hl, hl2, hl3 with | [_, _, _], [], [_, _, _, _], _, _, _ => rfl)
  obtain ⟨mwU, kgU⟩ := FU.kbinds0 (ps := ["self", "look", "changes", "by", "when", "must", "how"]) 3 ["by"] [("when", V.non), ("must", V.bl false), ("how", V.str "words")] (fun us mv ws => us ++ ws ++ mv) (by simp) (fun q hq => by simp only [List.mem_cons, List.not_mem_nil, or_false] at hq ⊢; rcases hq with rfl | rfl | rfl <;> simp) (fun r1 r2 r3 => (r1.append r3).append r2) (fun D doc pm an cdv ct us mv ws hl hl2 hl3 => match us, mv, ws, hl, hl2, hl3 with | [_, _, _], [_, _, _], [_], _, _, _ => ⟨_, _, _, _, _, _, rfl, rfl, _, _, _, _, _, _, rfl, rfl, _, _, _, _, _, _, rfl, rfl, rfl⟩)
  have Fpto := fun_mk (st := sPTold) lpto cpto kpto
  have bpto := Fpto.binds (ps := ["self", "how"]) fun _ _ _ _ _ _ us hl => match us, hl with | [_, _], _ => rfl
  have Fpbn := fun_mk (st := sPByN) lpbn cpbn kpbn
  have bpbn := Fpbn.binds (ps := ["self"]) fun _ _ _ _ _ _ us hl => match us, hl with | [_], _ => rfl
  have Fppr := fun_mk (st := sPPrt) lppr cppr kppr
  have bppr := Fppr.binds (ps := ["self"]) fun _ _ _ _ _ _ us hl => match us, hl with | [_], _ => rfl
  have Fpqe := fun_mk (st := sPEq) lpqe cpqe kpqe
  have bpqe := Fpqe.binds (ps := ["self", "other"]) fun _ _ _ _ _ _ us hl => match us, hl with | [_, _], _ => rfl
  have Fdto := fun_mk (st := sDTold) ldto cdto kdto
  have bdto := Fdto.binds (ps := ["self", "how"]) fun _ _ _ _ _ _ us hl => match us, hl with | [_, _], _ => rfl
  have Fdbn := fun_mk (st := sDByN) ldbn cdbn kdbn
  have bdbn := Fdbn.binds (ps := ["self"]) fun _ _ _ _ _ _ us hl => match us, hl with | [_], _ => rfl
  have Fdpr := fun_mk (st := sDPrt) ldpr cdpr kdpr
  have bdpr := Fdpr.binds (ps := ["self"]) fun _ _ _ _ _ _ us hl => match us, hl with | [_], _ => rfl
  have Fdqe := fun_mk (st := sDEq) ldqe cdqe kdqe
  have bdqe := Fdqe.binds (ps := ["self", "other"]) fun _ _ _ _ _ _ us hl => match us, hl with | [_, _], _ => rfl
  have Fhto := fun_mk (st := sCTold) lhto chto khto
  have bhto := Fhto.binds (ps := ["self", "how"]) fun _ _ _ _ _ _ us hl => match us, hl with | [_, _], _ => rfl
  have Fhbn := fun_mk (st := sCByN) lhbn chbn khbn
  have bhbn := Fhbn.binds (ps := ["self"]) fun _ _ _ _ _ _ us hl => match us, hl with | [_], _ => rfl
  have Fhpr := fun_mk (st := sCPrt) lhpr chpr khpr
  have bhpr := Fhpr.binds (ps := ["self"]) fun _ _ _ _ _ _ us hl => match us, hl with | [_], _ => rfl
  have Fhqe := fun_mk (st := sCEq) lhqe chqe khqe
  have bhqe := Fhqe.binds (ps := ["self", "other"]) fun _ _ _ _ _ _ us hl => match us, hl with | [_, _], _ => rfl
  have Faxs := fun_mk (st := sAxes) laxs caxs kaxs
  have baxs := Faxs.binds (ps := ["columns", "steps"]) fun _ _ _ _ _ _ us hl => match us, hl with | [_, _], _ => rfl
  have Ffbb := fun_mk (st := sBoth) lfbb cfbb kfbb
  have bfbb := Ffbb.binds (ps := ["one", "other"]) fun _ _ _ _ _ _ us hl => match us, hl with | [_, _], _ => rfl
  have Ffal := fun_mk (st := sAlike) lfal cfal kfal
  have bfal := Ffal.binds (ps := ["one", "other"]) fun _ _ _ _ _ _ us hl => match us, hl with | [_, _], _ => rfl
  have Fsrc := fun_mk (st := sSrc) lsrc csrc ksrc
  have bsrc := Fsrc.binds (ps := ["columns", "name", "thing"]) fun _ _ _ _ _ _ us hl => match us, hl with | [_, _, _], _ => rfl
  have Fmom := fun_mk (st := sMo) lmom cmom kmom
  have bmom := Fmom.binds (ps := ["thing"]) fun _ _ _ _ _ _ us hl => match us, hl with | [_], _ => rfl
  have Fcap := fun_mk (st := sCanP) lcap ccap kcap
  have bcap := Fcap.binds (ps := ["columns", "row"]) fun _ _ _ _ _ _ us hl => match us, hl with | [_, _], _ => rfl
  have Fisc := fun_mk (st := sIsc) lisc cisc kisc
  have bisc := Fisc.binds (ps := ["columns", "thing"]) fun _ _ _ _ _ _ us hl => match us, hl with | [_, _], _ => rfl
  have Farc := fun_mk (st := sArc) larc carc karc
  have barc := Farc.binds (ps := ["columns", "things"]) fun _ _ _ _ _ _ us hl => match us, hl with | [_, _], _ => rfl
  have Fcop := fun_mk (st := sCop) lcop ccop kcop
  have bcop := Fcop.binds (ps := ["change"]) fun _ _ _ _ _ _ us hl => match us, hl with | [_], _ => rfl
  have Fcos := fun_mk (st := sCos) lcos ccos kcos
  have bcos := Fcos.binds (ps := ["changes"]) fun _ _ _ _ _ _ us hl => match us, hl with | [_], _ => rfl
  have Fcog := fun_mk (st := sCog) lcog ccog kcog
  have bcog := Fcog.binds (ps := ["when"]) fun _ _ _ _ _ _ us hl => match us, hl with | [_], _ => rfl
  have Fgua := fun_mk (st := sGd) lgua cgua kgua
  have bgua := Fgua.binds (ps := ["columns", "thing"]) fun _ _ _ _ _ _ us hl => match us, hl with | [_, _], _ => rfl
  have Ford := fun_mk (st := sOrd) lord cord kord
  have bord := Ford.binds (ps := ["columns", "thing"]) fun _ _ _ _ _ _ us hl => match us, hl with | [_, _], _ => rfl
  have Fcho := fun_mk (st := sChO) lcho ccho kcho
  have bcho := Fcho.binds (ps := ["columns", "by", "most"]) fun _ _ _ _ _ _ us hl => match us, hl with | [_, _, _], _ => rfl
  have Fche := fun_mk (st := sChk) lche cche kche
  have bche := Fche.binds (ps := ["columns", "when", "must", "how"]) fun _ _ _ _ _ _ us hl => match us, hl with | [_, _, _, _], _ => rfl
  have Foby := fun_mk (st := sOby) loby coby koby
  have boby := Foby.binds (ps := ["by", "most"]) fun _ _ _ _ _ _ us hl => match us, hl with | [_, _], _ => rfl
  have Fpick := fun_mk (st := sPick) lpick cpick kpick
  have bpick := Fpick.binds (ps := ["_law_stream", "_law_some_here"]) fun _ _ _ _ _ _ us hl => match us, hl with | [_, _], _ => rfl
  have Fdraw := fun_mk (st := sDraw) ldraw cdraw kdraw
  have bdraw := Fdraw.binds (ps := ["_law_stream", "_law_many"]) fun _ _ _ _ _ _ us hl => match us, hl with | [_, _], _ => rfl
  have Fstart := fun_mk (st := sStart) lstart cstart kstart
  have bstart := Fstart.binds (ps := ["_law_script"]) fun _ _ _ _ _ _ us hl => match us, hl with | [_], _ => rfl
  have Fword := fun_mk (st := sWord) lword cword kword
  have bword := Fword.binds (ps := ["_law_stream"]) fun _ _ _ _ _ _ us hl => match us, hl with | [_], _ => rfl
  have Fwords := fun_mk (st := sWords) lwords cwords kwords
  have bwords := Fwords.binds (ps := ["_law_stream", "_law_many"]) fun _ _ _ _ _ _ us hl => match us, hl with | [_, _], _ => rfl
  have Fwo := fun_mk (st := sWorld) lwo cwo kwo
  have bwo := Fwo.binds (ps := ["_law_stream", "_law_shapes"]) fun _ _ _ _ _ _ us hl => match us, hl with | [_, _], _ => rfl
  have Fcof := fun_mk (st := sColsOf) lcof ccof kcof
  have bcof := Fcof.binds (ps := ["_law_w"]) fun _ _ _ _ _ _ us hl => match us, hl with | [_], _ => rfl
  have Fle := fun_mk (st := sLetters) lle cle kle
  have ble := Fle.binds (ps := ["_law_w"]) fun _ _ _ _ _ _ us hl => match us, hl with | [_], _ => rfl
  have Fspr := fun_mk (st := sSpare) lspr cspr kspr
  have bspr := Fspr.binds (ps := ["_law_w"]) fun _ _ _ _ _ _ us hl => match us, hl with | [_], _ => rfl
  have Fsame := fun_mk (st := sSame) lsame csame ksame
  have bsame := Fsame.binds (ps := ["_law_found", "_law_due"]) fun _ _ _ _ _ _ us hl => match us, hl with | [_, _], _ => rfl
  have Fsom := fun_mk (st := sLSome) lsom csom ksom
  have bsom := Fsom.binds (ps := ["_law_stream", "_law_things"]) fun _ _ _ _ _ _ us hl => match us, hl with | [_, _], _ => rfl
  have Fslk := fun_mk (st := sSLook) lslk cslk kslk
  have bslk := Fslk.binds (ps := ["_law_stream", "_law_w", "_law_far"]) fun _ _ _ _ _ _ us hl => match us, hl with | [_, _, _], _ => rfl
  have Flok := fun_mk (st := sLook) llok clok klok
  have blok := Flok.binds (ps := ["_law_stream", "_law_w", "_law_far", "_law_deep"]) fun _ _ _ _ _ _ us hl => match us, hl with | [_, _, _, _], _ => rfl
  have Flof := fun_mk (st := sLookOf) llof clof klof
  have blof := Flof.binds (ps := ["_law_columns_here", "_law_look_here"]) fun _ _ _ _ _ _ us hl => match us, hl with | [_, _], _ => rfl
  have Fhld := fun_mk (st := sHolds) lhld chld khld
  have bhld := Fhld.binds (ps := ["_law_w", "_law_look_here", "_law_row", "_law_number"]) fun _ _ _ _ _ _ us hl => match us, hl with | [_, _, _, _], _ => rfl
  have Ffds := fun_mk (st := sFinds) lfds cfds kfds
  have bfds := Ffds.binds (ps := ["_law_w", "_law_look_here"]) fun _ _ _ _ _ _ us hl => match us, hl with | [_, _], _ => rfl
  have Flsr := fun_mk (st := sSource) llsr clsr klsr
  have blsr := Flsr.binds (ps := ["_law_stream", "_law_w", "_law_at", "_law_new"]) fun _ _ _ _ _ _ us hl => match us, hl with | [_, _, _, _], _ => rfl
  have Flch := fun_mk (st := sChange) llch clch klch
  have blch := Flch.binds (ps := ["_law_stream", "_law_w", "_law_new"]) fun _ _ _ _ _ _ us hl => match us, hl with | [_, _, _], _ => rfl
  have Fodr := fun_mk (st := sOrder) lodr codr kodr
  have bodr := Fodr.binds (ps := ["_law_stream", "_law_w", "_law_ways"]) fun _ _ _ _ _ _ us hl => match us, hl with | [_, _, _], _ => rfl
  have Fbar := fun_mk (st := sBare) lbar cbar kbar
  have bbar := Fbar.binds (ps := ["_law_kind"]) fun _ _ _ _ _ _ us hl => match us, hl with | [_], _ => rfl
  have Flpu := fun_mk (st := sPut) llpu clpu klpu
  have blpu := Flpu.binds (ps := ["_law_stream", "_law_w", "_law_new"]) fun _ _ _ _ _ _ us hl => match us, hl with | [_, _, _], _ => rfl
  have Fsta := fun_mk (st := sStat) lsta csta ksta
  have bsta := Fsta.binds (ps := ["_law_stream", "_law_w", "_law_has_what"]) fun _ _ _ _ _ _ us hl => match us, hl with | [_, _, _], _ => rfl
  have Flmd := fun_mk (st := sMade) llmd clmd klmd
  have blmd := Flmd.binds (ps := ["_law_columns_here", "_law_s"]) fun _ _ _ _ _ _ us hl => match us, hl with | [_, _], _ => rfl
  have Flik := fun_mk (st := sLike) llik clik klik
  have blik := Flik.binds (ps := ["_law_w", "_law_one", "_law_other"]) fun _ _ _ _ _ _ us hl => match us, hl with | [_, _, _], _ => rfl
  have Fwip := fun_mk (st := sWith) lwip cwip kwip
  have bwip := Fwip.binds (ps := ["_law_s", "_law_part", "_law_thing"]) fun _ _ _ _ _ _ us hl => match us, hl with | [_, _, _], _ => rfl
  have Fwid := fun_mk (st := sWide) lwid cwid kwid
  have bwid := Fwid.binds (ps := ["_law_picks"]) fun _ _ _ _ _ _ us hl => match us, hl with | [_], _ => rfl
  have Fnud := fun_mk (st := sNumd) lnud cnud knud
  have bnud := Fnud.binds (ps := ["_law_s"]) fun _ _ _ _ _ _ us hl => match us, hl with | [_], _ => rfl
  have Fben := fun_mk (st := sBent) lben cben kben
  have bben := Fben.binds (ps := ["_law_stream", "_law_w", "_law_s"]) fun _ _ _ _ _ _ us hl => match us, hl with | [_, _, _], _ => rfl
  have Fsho := fun_mk (st := sShows) lsho csho ksho
  have bsho := Fsho.binds (ps := ["_law_w", "_law_columns_here", "_law_s", "_law_made_here"]) fun _ _ _ _ _ _ us hl => match us, hl with | [_, _, _, _], _ => rfl
  have Flaw := fun_mk (st := sLaw) llaw claw klaw
  have y_len := PySem.W.mg_none_of X G z_len
  have y_list := PySem.W.mg_none_of X G z_list
  have y_tuple := PySem.W.mg_none_of X G z_tuple
  have y_zip := PySem.W.mg_none_of X G z_zip
  have y_enumerate := PySem.W.mg_none_of X G z_enumerate
  have y_range := PySem.W.mg_none_of X G z_range
  have y_any := PySem.W.mg_none_of X G z_any
  have y_all := PySem.W.mg_none_of X G z_all
  have y_isinstance := PySem.W.mg_none_of X G z_isinstance
  have y_int := PySem.W.mg_none_of X G z_int
  have y_str := PySem.W.mg_none_of X G z_str
  have y_bool := PySem.W.mg_none_of X G z_bool
  have y_dict := PySem.W.mg_none_of X G z_dict
  have y_sum := PySem.W.mg_none_of X G z_sum
  have y_set := PySem.W.mg_none_of X G z_set
  have y_sorted := PySem.W.mg_none_of X G z_sorted
  have B : TxB2 mg := ⟨⟨y_len, y_list, y_tuple, y_zip, y_enumerate, y_range, y_any, y_all, y_isinstance, y_int, y_str, y_bool, y_dict, y_sum, y_set⟩, y_sorted⟩
  have clsC : Cls K C := ⟨pgC, hdC, poC, saC⟩
  have ocC' : OwnC K C := ⟨fun e => .ins e clsC clC gsC tkC moC, fun s hs => by
    simp only [List.mem_cons, List.not_mem_nil, or_false] at hs
    rcases hs with rfl | rfl | rfl | rfl | rfl | rfl | rfl
    · exact kit_no hdC tyC ktC0
    · exact kit_no hdC tyC ktC1
    · exact kit_no hdC tyC ktC2
    · exact kit_no hdC tyC ktC3
    · exact kit_no hdC tyC ktC4
    · exact kit_no hdC tyC ktC5
    · exact kit_no hdC tyC ktC6⟩
  have clsL : Cls K C3 := ⟨pgL, hdL, poL, saL⟩
  have ocL' : OwnC K C3 := ⟨fun e => .ins e clsL clL gsC tkC moL, fun s hs => by
    simp only [List.mem_cons, List.not_mem_nil, or_false] at hs
    rcases hs with rfl | rfl | rfl | rfl | rfl | rfl | rfl
    · exact kit_no hdL tyL ktL0
    · exact kit_no hdL tyL ktL1
    · exact kit_no hdL tyL ktL2
    · exact kit_no hdL tyL ktL3
    · exact kit_no hdL tyL ktL4
    · exact kit_no hdL tyL ktL5
    · exact kit_no hdL tyL ktL6⟩
  have clsP : Cls K CP := ⟨pgP, hdP, poP, saP⟩
  have ocP' : OwnC K CP := ⟨fun e => .ins e clsP clP gsC tkC moP, fun s hs => by
    simp only [List.mem_cons, List.not_mem_nil, or_false] at hs
    rcases hs with rfl | rfl | rfl | rfl | rfl | rfl | rfl
    · exact kit_no hdP tyP ktP0
    · exact kit_no hdP tyP ktP1
    · exact kit_no hdP tyP ktP2
    · exact kit_no hdP tyP ktP3
    · exact kit_no hdP tyP ktP4
    · exact kit_no hdP tyP ktP5
    · exact kit_no hdP tyP ktP6⟩
  have clsD : Cls K CD := ⟨pgD, hdD, poD, saD⟩
  have ocD' : OwnC K CD := ⟨fun e => .ins e clsD clD gsC tkC moD, fun s hs => by
    simp only [List.mem_cons, List.not_mem_nil, or_false] at hs
    rcases hs with rfl | rfl | rfl | rfl | rfl | rfl | rfl
    · exact kit_no hdD tyD ktD0
    · exact kit_no hdD tyD ktD1
    · exact kit_no hdD tyD ktD2
    · exact kit_no hdD tyD ktD3
    · exact kit_no hdD tyD ktD4
    · exact kit_no hdD tyD ktD5
    · exact kit_no hdD tyD ktD6⟩
  have clsH : Cls K CH := ⟨pgH, hdH, poH, saH⟩
  have ocH' : OwnC K CH := ⟨fun e => .ins e clsH clH gsC tkC moH, fun s hs => by
    simp only [List.mem_cons, List.not_mem_nil, or_false] at hs
    rcases hs with rfl | rfl | rfl | rfl | rfl | rfl | rfl
    · exact kit_no hdH tyH ktH0
    · exact kit_no hdH tyH ktH1
    · exact kit_no hdH tyH ktH2
    · exact kit_no hdH tyH ktH3
    · exact kit_no hdH tyH ktH4
    · exact kit_no hdH tyH ktH5
    · exact kit_no hdH tyH ktH6⟩
  refine ⟨PySem.W.fnOf "law" "law" (defArgs sLaw) (defBody sLaw) (defScope sLaw) .none kVlaw dclaw pmlaw anlaw cdlaw ctlaw, fun s v => .of_eq rfl, fun base _ _ => ?_⟩
  have hNu : Fn l.prog w K mg base "is_number" 1 1 fIsNu := ⟨_, _, _, okIsNu FisNu B, PySem.W.mg_of X G aisNu, kisNu, bisNu⟩
  have hW : Fn l.prog w K mg base "is_word" 1 1 fIsW := ⟨_, _, _, okIsW FisW B (PySem.W.mg_of X G gLE) (PySem.W.mg_of X G gML), PySem.W.mg_of X G aisW, kisW, bisW⟩
  have hL : Fn l.prog w K mg base "is_list" 1 1 fIsL := ⟨_, _, _, okIsL FisL B, PySem.W.mg_of X G aisL, kisL, bisL⟩
  have hN : Fn l.prog w K mg base "_is_name" 2 1 fIsN := ⟨_, _, _, okIsN FisN B hW, PySem.W.mg_of X G aisN, kisN, bisN⟩
  have hA : Fn l.prog w K mg base "are_values_columns" 2 1 fAre := ⟨_, _, _, okAre Fare B (PySem.W.mg_of X G gMV) hW hL, PySem.W.mg_of X G aare, kare, bare⟩
  have hT : Fn l.prog w K mg base "_is_told" 3 1 fTold := ⟨_, _, _, okTold Ftold B hL hN hA, PySem.W.mg_of X G atold, ktold, btold⟩
  have hC : Fn l.prog w K mg base "can_stand" 2 2 fCan := ⟨_, _, _, okCan Fcan B hW, PySem.W.mg_of X G acan, kcan, bcan⟩
  have hM : Mkr l.prog w K mg base "Columns" C 4 (fInit C) := ⟨_, _, _, ⟨mkC, iI, fnI, kkC⟩, PySem.W.mg_of X G aC, okInit C FI B clsC nC0 (PySem.W.mg_of X G gMC) (PySem.W.mg_of X G gMF) hT hN, bI⟩
  have mN : MthO l.prog w K mg base C "names" 1 (fNames C) := ⟨_, _, _, clsC, ⟨inam, fnnam, knam⟩, okNames C Fnam B clsC nC0, bnam⟩
  have mL : Len l.prog w K mg base C 1 (fLen C) := ⟨_, _, _, ⟨icln, fncln⟩, okLen C Fcln B clsC nC0, bcln⟩
  have mI : L2.Tr.Con l.prog w K mg base C 1 (fIn C) := ⟨_, _, _, ⟨icin, fncin⟩, okIn C Fcin B clsC nC0, bcin⟩
  have mT : Mth l.prog w K mg base C "told_values" 2 (fTV C) := ⟨_, _, _, clsC, ⟨ictv, fnctv, kctv⟩, okTV C Fctv B clsC nC0 mI, bctv⟩
  have mE : Eqr l.prog w K mg base C 1 (fEq C) := ⟨_, _, _, ⟨iceq, fnceq, neC, moC⟩, okEq C Fceq B clsC nC0 ocC' (PySem.W.mg_of X G aC), bceq⟩
  have hMk : Mkr l.prog w K mg base "Look" C3 2 (fLInit C3) := ⟨_, _, _, ⟨mkL, iJ, fnJ, kkL⟩, PySem.W.mg_of X G aL, okLInit C3 FJ B clsL nL0 nL1, bJ⟩
  have hCt : Fn l.prog w K mg base "_count" 1 1 (fCount K) := ⟨_, _, _, okCount Fcnt B, PySem.W.mg_of X G acnt, kcnt, bcnt⟩
  have hFi : Fn l.prog w K mg base "_found_in" 2 3 (fFIn K) := ⟨_, _, _, okFIn Ffin B hCt, PySem.W.mg_of X G afin, kfin, bfin⟩
  have hFs : Fn l.prog w K mg base "_found_same" 2 3 (fFSame K) := ⟨_, _, _, okFSame Ffsm B hCt, PySem.W.mg_of X G afsm, kfsm, bfsm⟩
  have mF : Mth l.prog w K mg base C3 "found" 3 (fFound K C3) := ⟨_, _, _, clsL, ⟨ilfo, fnlfo, klfo⟩, okFound C3 Flfo B clsL nL0 nL1 hCt hFi hFs, blfo⟩
  have mC : ClO l.prog w K mg base C3 4 (fLCall K C3) := ⟨_, _, _, ⟨ilca, fnlca, filca⟩, okLCall C3 Flca B clsL nL0 nL1 mF, blca⟩
  have hJ : Fn l.prog w K mg base "_joined" 4 3 (fJoined C C3 (fEq C)) := ⟨_, _, _, okJoined C C3 _ Fjoi B clsL nL0 nL1 hMk mE, PySem.W.mg_of X G ajoi, kjoi, bjoi⟩
  have hAnd : BinO l.prog w K mg base C3 "__and__" 5 (fLAnd C C3 (fEq C)) := ⟨_, _, _, ⟨ilan, fnlan, sfL⟩, okLAnd C C3 _ Flan B hJ, blan⟩
  have hOr : BinO l.prog w K mg base C3 "__or__" 5 (fLOr C C3 (fEq C)) := ⟨_, _, _, ⟨ilor, fnlor, sfL⟩, okLOr C C3 _ Flor B hJ, blor⟩
  have hInv : BinO l.prog w K mg base C3 "__invert__" 4 (fLInv C3) := ⟨_, _, _, ⟨iliv, fnliv, sfL⟩, okLInv C3 Fliv B clsL nL0 nL1 hMk, bliv⟩
  have hSub : BinO l.prog w K mg base C3 "__sub__" 6 (fLSub C C3 (fEq C)) := ⟨_, _, _, ⟨ilsu, fnlsu, sfL⟩, okLSub C C3 _ Flsu B hAnd hInv, blsu⟩
  have hXor : BinO l.prog w K mg base C3 "__xor__" 6 (fLXor C C3 (fEq C)) := ⟨_, _, _, ⟨ilxo, fnlxo, sfL⟩, okLXor C C3 _ Flxo B hAnd hOr hInv, blxo⟩
  have hAV : Fn l.prog w K mg base "are_values_looks" 3 2 fAVal := ⟨_, _, _, okAVal Fava B hL hC, PySem.W.mg_of X G aava, kava, bava⟩
  have hAN : Fn l.prog w K mg base "_are_numbers" 2 1 fANum := ⟨_, _, _, okANum Fanu B (PySem.W.mg_of X G gGN) hL hNu, PySem.W.mg_of X G aanu, kanu, banu⟩
  have hHas : Fn l.prog w K mg base "has" 4 3 (fHas C C3) := ⟨_, _, _, okHas C C3 Fhas B hMk mT mN hAV, PySem.W.mg_of X G ahas, khas, bhas⟩
  have hSm : Fn l.prog w K mg base "same" 4 3 (fSame2 C C3) := ⟨_, _, _, okSame2 C C3 Fsm2 B hMk mT mN, PySem.W.mg_of X G asm2, ksm2, bsm2⟩
  have hNum : Fn l.prog w K mg base "numbered" 4 2 (fNumb C C3) := ⟨_, _, _, okNumb C C3 Fnmb B hMk mL hAN, PySem.W.mg_of X G anmb, knmb, bnmb⟩
  have hEv : Fn l.prog w K mg base "every" 4 1 (fEvery C3) := ⟨_, _, _, okEvery C3 Feve B hMk, PySem.W.mg_of X G aeve, keve, beve⟩
  have kN : L2.Tr.KT K aNUM nums := ⟨⟨_, _, _, lNUM, rfl, rfl, (by show 5 ≤ sizeLine; decide), .cons ⟨_, rfl⟩ (.cons ⟨_, rfl⟩ (.cons ⟨_, rfl⟩ (.cons ⟨_, rfl⟩ (.cons ⟨_, rfl⟩ (.nil)))))⟩, by decide, by decide⟩
  have kW : L2.Tr.KT K aOTH oth := ⟨⟨_, _, _, lOTH, rfl, rfl, (by show 2 ≤ sizeLine; decide), .cons ⟨_, rfl⟩ (.cons ⟨_, rfl⟩ (.nil))⟩, by decide, by decide⟩
  have k3 : L2.Tr.KT K aWAY wayS := ⟨⟨_, _, _, lWAY, rfl, rfl, (by show 3 ≤ sizeLine; decide), .cons ⟨_, rfl⟩ (.cons ⟨_, rfl⟩ (.cons ⟨_, rfl⟩ (.nil)))⟩, by decide, by decide⟩
  have kB : L2.Tr.KT K aBD [] := ⟨⟨_, _, _, lEBD, rfl, rfl, (by show 0 ≤ sizeLine; decide), .nil⟩, by decide, by decide⟩
  have hne3 : C ≠ C3 := ne_of_sub sCL sLL
  have oX : ∀ C2 ∈ [C], OwnC K C2 ∧ PySem.W.kitOne K (.ref C2) (.ref C3) = some false := fun C2 h2 => by rw [List.mem_singleton.mp h2]; exact ⟨ocC', kit_noC hne3 hdL tyL sCL⟩
  have xDP : CD ≠ CP := ne_of_sub sDP sPP
  have xHP : CH ≠ CP := ne_of_sub sHP sPP
  have xLP : C3 ≠ CP := ne_of_sub sLP sPP
  have oXP : ∀ C2 ∈ [CD, CH, C3], OwnC K C2 ∧ PySem.W.kitOne K (.ref C2) (.ref CP) = some false := all3 (p := fun C2 => OwnC K C2 ∧ PySem.W.kitOne K (.ref C2) (.ref CP) = some false) ⟨ocD', kit_noC xDP hdP tyP sDP⟩ ⟨ocH', kit_noC xHP hdP tyP sHP⟩ ⟨ocL', kit_noC xLP hdP tyP sLP⟩
  have hLP : ∀ C2 ∈ [CD, CH, C3], PySem.W.notFirst K CP (.ref C2) = true := all3 (p := fun C2 => PySem.W.notFirst K CP (.ref C2) = true) (nf_of sDP) (nf_of sHP) (nf_of sLP)
  have xPD : CP ≠ CD := ne_of_sub sPD sDD
  have xHD : CH ≠ CD := ne_of_sub sHD sDD
  have xLD : C3 ≠ CD := ne_of_sub sLD sDD
  have oXD : ∀ C2 ∈ [CP, CH, C3], OwnC K C2 ∧ PySem.W.kitOne K (.ref C2) (.ref CD) = some false := all3 (p := fun C2 => OwnC K C2 ∧ PySem.W.kitOne K (.ref C2) (.ref CD) = some false) ⟨ocP', kit_noC xPD hdD tyD sPD⟩ ⟨ocH', kit_noC xHD hdD tyD sHD⟩ ⟨ocL', kit_noC xLD hdD tyD sLD⟩
  have hLD : ∀ C2 ∈ [CP, CH, C3], PySem.W.notFirst K CD (.ref C2) = true := all3 (p := fun C2 => PySem.W.notFirst K CD (.ref C2) = true) (nf_of sPD) (nf_of sHD) (nf_of sLD)
  have xPH : CP ≠ CH := ne_of_sub sPH sHH
  have xDH : CD ≠ CH := ne_of_sub sDH sHH
  have xLH : C3 ≠ CH := ne_of_sub sLH sHH
  have oXH : ∀ C2 ∈ [CP, CD, C3], OwnC K C2 ∧ PySem.W.kitOne K (.ref C2) (.ref CH) = some false := all3 (p := fun C2 => OwnC K C2 ∧ PySem.W.kitOne K (.ref C2) (.ref CH) = some false) ⟨ocP', kit_noC xPH hdH tyH sPH⟩ ⟨ocD', kit_noC xDH hdH tyH sDH⟩ ⟨ocL', kit_noC xLH hdH tyH sLH⟩
  have hLH : ∀ C2 ∈ [CP, CD, C3], PySem.W.notFirst K CH (.ref C2) = true := all3 (p := fun C2 => PySem.W.notFirst K CH (.ref C2) = true) (nf_of sPH) (nf_of sDH) (nf_of sLH)
  have cs : Cs C C3 CP CD CH [CD, CH, C3] [CP, CH, C3] [CP, CD, C3] := ⟨fun z => hne3 z.symm, xPD, xPH, xDH, xLP, xLD, xLH, ⟨by simp, by simp, by simp⟩, ⟨by simp, by simp, by simp⟩, ⟨by simp, by simp, by simp⟩⟩
  have hAx : Fn l.prog w K mg base "_axes" 3 2 (fAxes K C aNUM aOTH) := ⟨_, _, _, okAxes C aNUM aOTH Faxs B mT mN (PySem.W.mg_of X G gNUM) (PySem.W.mg_of X G gOTH), PySem.W.mg_of X G aaxs, kaxs, baxs⟩
  have hBo : Fn l.prog w K mg base "_found_by_both" 4 2 (gBoK K C C3 aNUM aOTH) := ⟨_, _, _, okBoth C C3 _ _ _ Ffbb B clsL nL0 nL1 hAx mE mF, PySem.W.mg_of X G afbb, kfbb, bfbb⟩
  have hAl : Fn l.prog w K mg base "_find_alike" 5 2 (fAlike (gBoK K C C3 aNUM aOTH)) := ⟨_, _, _, okAlike _ Ffal B hBo, PySem.W.mg_of X G afal, kfal, bfal⟩
  have mEL : Eqr l.prog w K mg base C3 6 (gLEK K C C3 aNUM aOTH) := ⟨_, _, _, ⟨ileq, fnleq, neL, moL⟩, okLEq C C3 _ _ Fleq B clsL nL0 nL1 ocL' oX (PySem.W.mg_of X G aL) mE hAl, bleq⟩
  have hLK : Fn l.prog w K mg base "is_list" 1 1 (fIsLK K) := ⟨_, _, _, okIsLK FisL B, PySem.W.mg_of X G aisL, kisL, bisL⟩
  have hSrc : Fn l.prog w K mg base "_is_source" 3 3 (fSrc C) := ⟨_, _, _, okSrc C Fsrc B hL hC mT mI, PySem.W.mg_of X G asrc, ksrc, bsrc⟩
  have hMo : Fn l.prog w K mg base "_is_moment" 2 1 fMo := ⟨_, _, _, okMo Fmom B hL, PySem.W.mg_of X G amom, kmom, bmom⟩
  have hCP : Fn l.prog w K mg base "_can_be_put" 3 2 (fCanP C) := ⟨_, _, _, okCanP C Fcap B hL hC hMo mT mN mL, PySem.W.mg_of X G acap, kcap, bcap⟩
  have hIsc : Fn l.prog w K mg base "_is_change" 4 2 (fIsc C) := ⟨_, _, _, okIsc C Fisc B hSrc mI, PySem.W.mg_of X G aisc, kisc, bisc⟩
  have hArc : Fn l.prog w K mg base "_are_changes" 5 2 (fArc C) := ⟨_, _, _, okArc C Farc B (PySem.W.mg_of X G gMT) hL hIsc, PySem.W.mg_of X G aarc, karc, barc⟩
  have hCop : Fn l.prog w K mg base "_copied_change" 1 1 fCop := ⟨_, _, _, okCop Fcop B, PySem.W.mg_of X G acop, kcop, bcop⟩
  have hCos : Fn l.prog w K mg base "_copied_changes" 2 1 fCos := ⟨_, _, _, okCos Fcos B hCop, PySem.W.mg_of X G acos, kcos, bcos⟩
  have hCog : Fn l.prog w K mg base "_copied_guard" 1 1 fCog := ⟨_, _, _, okCog Fcog B, PySem.W.mg_of X G acog, kcog, bcog⟩
  have hGd : Fn l.prog w K mg base "_is_guard" 2 2 (fGd C C3) := ⟨_, _, _, okGd C C3 Fgua B clsL nL0 ocL' (PySem.W.mg_of X G aL) hL mE, PySem.W.mg_of X G agua, kgua, bgua⟩
  have hOrd : Fn l.prog w K mg base "_is_order" 3 2 (fOrd K C) := ⟨_, _, _, okOrd C Ford B hLK mT mI, PySem.W.mg_of X G aord, kord, bord⟩
  have hCho : Fn l.prog w K mg base "_check_order" 4 3 (fChO K C) := ⟨_, _, _, okChO C Fcho B hOrd, PySem.W.mg_of X G acho, kcho, bcho⟩
  have hChe : Fn l.prog w K mg base "_check_end" 3 4 (fChk K C C3 aWAY) := ⟨_, _, _, okChk C C3 aWAY Fche B (PySem.W.mg_of X G gWAY) hGd, PySem.W.mg_of X G ache, kche, bche⟩
  have hOb : Fn l.prog w K mg base "_ordered_by_number" 1 2 fOby := ⟨_, _, _, okOby Foby B, PySem.W.mg_of X G aoby, koby, boby⟩
  have GQ := okPInit (P := l.prog) (w := w) (base := base) C C3 aWAY CP FQ B clsP nP0 nP1 nP2 nP3 nP4 nP5 hCP hChe hCog
  have GZ := okDInit (P := l.prog) (w := w) (base := base) C C3 aWAY CD FZ B clsD nD0 nD1 nD2 nD3 nD4 nD5 nD6 nD7 clsL nL0 ocL' (PySem.W.mg_of X G aL) (PySem.W.mg_of X G gMT) hNu hCho hChe hCog
  have GU := okCInit (P := l.prog) (w := w) (base := base) C C3 aWAY CH FU B clsH nH0 nH1 nH2 nH3 nH4 nH5 nH6 nH7 nH8 clsL nL0 ocL' (PySem.W.mg_of X G aL) hArc hCos hCho hChe hCog
  have mkPK : MkrK l.prog w K mg base "Put" CP 6 2 ["when", "how"] (fPInit K C C3 aWAY CP) := ⟨_, _, _, _, ⟨mkP, iQ, fnQ, kkP⟩, PySem.W.mg_of X G aP, GQ, kbQ⟩
  have mkDK : MkrK l.prog w K mg base "Drop" CD 6 1 ["most", "by", "when", "must", "how"] (fDInit K C C3 aWAY CD) := ⟨_, _, _, _, ⟨mkD, iZ, fnZ, kkD⟩, PySem.W.mg_of X G aD, GZ, kbZ⟩
  have mkCK : MkrK l.prog w K mg base "Change" CH 6 2 ["by", "when", "must", "how"] (fCInit K C C3 aWAY CH) := ⟨_, _, _, _, ⟨mkH, iU, fnU, kkH⟩, PySem.W.mg_of X G aH, GU, kbU⟩
  have mkDd : MkrD l.prog w K mg base "Drop" CD 6 [.non, .ref aBD, .non, .bl false, .str "words"] (fDInit K C C3 aWAY CD) := ⟨_, _, _, _, ⟨mkD, iZ, fnZ, kkD⟩, PySem.W.mg_of X G aD, GZ, bZ, vZ⟩
  have mkCb : MkrKD l.prog w K mg base "Change" CH 6 2 ["by"] [.non, .bl false, .str "words"] (fCInit K C C3 aWAY CH) := ⟨_, _, _, _, ⟨mkH, iU, fnU, kkH⟩, PySem.W.mg_of X G aH, GU, kgU⟩
  have mPT : Mth l.prog w K mg base CP "told" 8 (gPT K C C3 aWAY CP) := ⟨_, _, _, clsP, ⟨ipto, fnpto, kpto⟩, okPTold CP _ Fpto B clsP nP0 nP1 nP2 nP3 nP4 nP5 mkPK, bpto⟩
  have mPB : Mth l.prog w K mg base CP "by_number" 8 (gPB K C C3 aWAY CP) := ⟨_, _, _, clsP, ⟨ipbn, fnpbn, kpbn⟩, okPByN CP _ Fpbn B clsP nP0 nP1 nP2 nP3 nP4 nP5 mkPK hOb, bpbn⟩
  have mPP : Mth l.prog w K mg base CP "_parts" 1 (fPPrt CP) := ⟨_, _, _, clsP, ⟨ippr, fnppr, kppr⟩, okPPrt CP Fppr B clsP nP0 nP1 nP2 nP3 nP4 nP5, bppr⟩
  have mPE : Eqr l.prog w K mg base CP 9 (gPE K C C3 aNUM aOTH CP [CD, CH, C3]) := ⟨_, _, _, ⟨ipqe, fnpqe, neP, moP⟩, okPEq C C3 CP [CD, CH, C3] _ Fpqe B clsP nP0 nP1 nP2 nP3 nP4 nP5 ocP' (PySem.W.mg_of X G aP) oXP mPP mE mEL, bpqe⟩
  have mDT : Mth l.prog w K mg base CD "told" 8 (gDT K C C3 aWAY CD) := ⟨_, _, _, clsD, ⟨idto, fndto, kdto⟩, okDTold CD _ Fdto B clsD nD0 nD1 nD2 nD3 nD4 nD5 nD6 nD7 mkDK, bdto⟩
  have mDB : Mth l.prog w K mg base CD "by_number" 8 (gDB K C C3 aWAY CD) := ⟨_, _, _, clsD, ⟨idbn, fndbn, kdbn⟩, okDByN CD _ Fdbn B clsD nD0 nD1 nD2 nD3 nD4 nD5 nD6 nD7 mkDK hOb, bdbn⟩
  have mDP : Mth l.prog w K mg base CD "_parts" 1 (fDPrt CD) := ⟨_, _, _, clsD, ⟨idpr, fndpr, kdpr⟩, okDPrt CD Fdpr B clsD nD0 nD1 nD2 nD3 nD4 nD5 nD6 nD7, bdpr⟩
  have mDE : Eqr l.prog w K mg base CD 9 (gDE K C C3 aNUM aOTH CD [CP, CH, C3]) := ⟨_, _, _, ⟨idqe, fndqe, neD, moD⟩, okDEq C C3 CD [CP, CH, C3] _ Fdqe B clsD nD0 nD1 nD2 nD3 nD4 nD5 nD6 nD7 ocD' (PySem.W.mg_of X G aD) oXD mDP mE mEL, bdqe⟩
  have mCT : Mth l.prog w K mg base CH "told" 8 (gCT K C C3 aWAY CH) := ⟨_, _, _, clsH, ⟨ihto, fnhto, khto⟩, okCTold CH _ Fhto B clsH nH0 nH1 nH2 nH3 nH4 nH5 nH6 nH7 nH8 mkCK, bhto⟩
  have mCB : Mth l.prog w K mg base CH "by_number" 8 (gCB K C C3 aWAY CH) := ⟨_, _, _, clsH, ⟨ihbn, fnhbn, khbn⟩, okCByN CH _ Fhbn B clsH nH0 nH1 nH2 nH3 nH4 nH5 nH6 nH7 nH8 mkCK hOb, bhbn⟩
  have mCP : Mth l.prog w K mg base CH "_parts" 1 (fCPrt CH) := ⟨_, _, _, clsH, ⟨ihpr, fnhpr, khpr⟩, okCPrt CH Fhpr B clsH nH0 nH1 nH2 nH3 nH4 nH5 nH6 nH7 nH8, bhpr⟩
  have mCE : Eqr l.prog w K mg base CH 9 (gCE K C C3 aNUM aOTH CH [CP, CD, C3]) := ⟨_, _, _, ⟨ihqe, fnhqe, neH, moH⟩, okCEq C C3 CH [CP, CD, C3] _ Fhqe B clsH nH0 nH1 nH2 nH3 nH4 nH5 nH6 nH7 nH8 ocH' (PySem.W.mg_of X G aH) oXH mCP mE mEL, bhqe⟩
  have Gdr := ok_draw (P := l.prog) (w := w) (base := base) Fdraw ⟨y_int, y_list⟩
  have Gst := ok_start (P := l.prog) (w := w) (base := base) Fstart ⟨y_int, y_list⟩
  have GpS := ok_pickS (P := l.prog) (w := w) (base := base) Fpick y_len (PySem.W.mg_of X G adraw) kdraw Gdr bdraw
  have Gwd := ok_word (P := l.prog) (w := w) (base := base) Fword y_range (PySem.W.mg_of X G adraw) kdraw Gdr bdraw (PySem.W.mg_of X G apick) kpick GpS bpick
  have hDr : FnE l.prog w K mg base "_law_draw" 1 spDraw := ⟨_, _, _, Gdr, PySem.W.mg_of X G adraw, kdraw, bdraw⟩
  have hPk : FnE l.prog w K mg base "_law_pick" 2 (spS fPickW) := ⟨_, _, _, okPickW Fpick B hDr, PySem.W.mg_of X G apick, kpick, bpick⟩
  have hWd : FnE l.prog w K mg base "_law_word" 3 spWord := ⟨_, _, _, Gwd, PySem.W.mg_of X G aword, kword, bword⟩
  have hWs : FnE l.prog w K mg base "_law_words" 4 (spS fWords) := ⟨_, _, _, okWords Fwords B hWd, PySem.W.mg_of X G awords, kwords, bwords⟩
  have hWo : FnE l.prog w K mg base "_law_world" 5 (spS fWorld) := ⟨_, _, _, okWorld Fwo B hDr hPk hWs, PySem.W.mg_of X G awo, kwo, bwo⟩
  have hSp : Fn l.prog w K mg base "_law_spare" 1 1 fSpare := ⟨_, _, _, okSpare Fspr B, PySem.W.mg_of X G aspr, kspr, bspr⟩
  have hLe2 : Fn l.prog w K mg base "_law_letters" 2 1 fLetters := ⟨_, _, _, okLetters Fle B hSp, PySem.W.mg_of X G ale, kle, ble⟩
  have hCo : Fn l.prog w K mg base "_law_columns" 6 1 (fColsOf C (fInit C)) := ⟨_, _, _, okColsOf C _ Fcof B hM, PySem.W.mg_of X G acof, kcof, bcof⟩
  have hS : Fn l.prog w K mg base "_law_same" 6 2 (smN 6) := fn_same Fsame B (PySem.W.mg_of X G asame) ksame bsame 6
  have hHo : Fn l.prog w K mg base "_law_holds" 4 4 (fHo 4) := fn_holds Fhld B (PySem.W.mg_of X G ahld) khld bhld 4
  have hFdS : Fn l.prog w K mg base "_law_look_finds" 5 2 (fFinds (fHo 4)) := ⟨_, _, _, okFinds _ Ffds B hLe2 hHo, PySem.W.mg_of X G afds, kfds, bfds⟩
  have hLo : Fn l.prog w K mg base "_law_look_of" 10 2 (fOf C C3 4) := fn_of Flof B (PySem.W.mg_of X G alof) klof blof hHas hSm hNum hEv hAnd hOr hSub hXor hInv 4
  have hSo : FnE l.prog w K mg base "_law_some" 3 (spS fLSome) := ⟨_, _, _, okLSome Fsom B hDr hPk, PySem.W.mg_of X G asom, ksom, bsom⟩
  have hSl : FnE l.prog w K mg base "_law_simple_look" 4 (spS fSLook) := ⟨_, _, _, okSLook Fslk B hDr hSo, PySem.W.mg_of X G aslk, kslk, bslk⟩
  have hLk : FnE l.prog w K mg base "_law_look" 7 (spS (gLkN 3)) := fn_look Flok B (PySem.W.mg_of X G alok) klok blok hDr hPk hSl 3
  have hLS : FnE l.prog w K mg base "_law_source" 3 (spS fSource) := ⟨_, _, _, okSource Flsr B hDr hPk, PySem.W.mg_of X G alsr, klsr, blsr⟩
  have hCg : FnE l.prog w K mg base "_law_change" 4 (spS fChange) := ⟨_, _, _, okChange Flch B hDr hLS, PySem.W.mg_of X G alch, klch, blch⟩
  have hOd : FnE l.prog w K mg base "_law_order" 3 (spS fOrder) := ⟨_, _, _, okOrder Fodr B hDr hPk, PySem.W.mg_of X G aodr, kodr, bodr⟩
  have hBa : FnE l.prog w K mg base "_law_bare" 1 (spSO fBare) := ⟨_, _, _, okBare Fbar B, PySem.W.mg_of X G abar, kbar, bbar⟩
  have hPu : FnE l.prog w K mg base "_law_put" 3 (spSO fPut) := ⟨_, _, _, okPut Flpu B hDr hPk hBa, PySem.W.mg_of X G alpu, klpu, blpu⟩
  have hSt : FnE l.prog w K mg base "_law_statement" 8 (spSO fun a => fStat a (gLkN 3)) := ⟨_, _, _, okStat (gLkN 3) Fsta B hDr hPk hLk hCg hOd hBa hPu, PySem.W.mg_of X G asta, ksta, bsta⟩
  have hMd : Fn l.prog w K mg base "_law_made" 11 2 (gMade K C C3 aWAY CP CD CH) := ⟨_, _, _, okMade CP CD CH _ _ _ _ Flmd B mkPK mkDK mkCK hLo, PySem.W.mg_of X G almd, klmd, blmd⟩
  have hLi : Fn l.prog w K mg base "_law_is_like" 6 3 (fLike (fFinds (fHo 4))) := ⟨_, _, _, okLike _ Flik B hFdS, PySem.W.mg_of X G alik, klik, blik⟩
  have hWp : FnE l.prog w K mg base "_law_with_part" 1 (spSO fWith) := ⟨_, _, _, okWith Fwip B, PySem.W.mg_of X G awip, kwip, bwip⟩
  have hWi : FnE l.prog w K mg base "_law_wide" 1 (spSO fWide) := ⟨_, _, _, okWide Fwid B, PySem.W.mg_of X G awid, kwid, bwid⟩
  have hNb : FnE l.prog w K mg base "_law_numbered_by" 3 (spS fNumd) := ⟨_, _, _, okNumd Fnud B hWp, PySem.W.mg_of X G anud, knud, bnud⟩
  have hBt : FnE l.prog w K mg base "_law_bent" 4 (spS fBent) := ⟨_, _, _, okBent Fben B hDr hPk hWp, PySem.W.mg_of X G aben, kben, bben⟩
  have hSh : FnE l.prog w K mg base "_law_shows" 12 (spS fun _ => gSh C K C C3 aWAY aNUM aOTH CP CD CH [CD, CH, C3] [CP, CH, C3] [CP, CD, C3]) := ⟨_, _, _, okShows C CP CD CH [CD, CH, C3] [CP, CH, C3] [CP, CD, C3] _ _ _ _ _ _ _ _ _ _ _ _ Fsho B clsP nP0 nP1 nP4 nP5 clsD nD0 nD1 nD6 nD7 clsH nH0 nH1 nH7 nH8 mPT mPB mDT mDB mCT mCB mPE mDE mCE hLP hLD hLH mE hWp hNb hS hMd hEv, PySem.W.mg_of X G asho, ksho, bsho⟩
  exact ok_law Flaw B (PySem.W.mg_of X G astart) kstart Gst bstart k3 kB kW kN cs hWo hSt hWi hBt hCg hSh hCo hMd hLi hS hEv mkDd mkCb mPE mDE mCE hLP hLD hLH
theorem walk {l : PySem.W.OpenLaw} {q : Program} {loose : List Str} {XP : (Str → Option Value) → Heap → Prop} {YP : World → Heap → Prop} {d : DefRec} {K : Params → PySem.W.Frag} (hn : l.most = some 63) (hdf : d.params.defaults = [])
    (hY : ∀ (w : World) (h : Heap), YP w h → (K w.params).In h)
    (F : ∀ (w : World) (mg : Str → Option Value) (fa : Addr) (h : Heap), (K w.params).In h → h.Ns mainGlobals mg → mg d.name = some (.ref fa) →
      ∃ fd : FuncData, (∀ (s : Shared) (u : Value), BindsTo s fd ⟨[u], []⟩ [("_law_script", u)]) ∧ ∀ base : Heap, (K w.params).In base → base.Ns mainGlobals mg → FnOk l.prog w (K w.params) mg base CX0 14 fa fd ["_law_script"] (spLaw (K w.params))) :
    PySem.W.WalkO q loose XP YP l.row.toRowW d [] (fun f vs => PySem.call f vs) :=
  L2.walk_of (n := 63) (k := 14) (x := "_law_script") (CX := fun _ => CX0) (sp := fun w => spLaw (K w.params)) hn (by decide) hdf ⟨rfl, by decide, by decide⟩ hY F (fun _ _ a ns hl _ hS => ⟨a, ns, rfl, hS, fun _ => rfl⟩) fun _ _ _ _ _ z => z
end L2.K1

open PySem PySem.W PyProof.Rows
set_option maxRecDepth 100000 in
set_option maxHeartbeats 0 in
theorem PySem.Challenge.cw_toldthere_k08_statements_alike_holds : PySem.Challenge.rw_toldthere_k08_statements_alike.Holds := by
  w_on; o_law; k_head; (case hw => w_witness2)
  k_fill
  refine L2.K1.walk (l := PySem.Challenge.rw_toldthere_k08_statements_alike) rfl rfl (fun w h Y => PySem.W.kIn_of Y) ?F
  case F =>
    intro w mg fa h KX G hmg
    refine' L2.K1.all_mk KX G hmg ?aC ?pgC ?hdC ?poC ?saC ?nC0 ?mkC ?kkC ?clC ?moC ?neC ?tyC ?ktC0 ?ktC1 ?ktC2 ?ktC3 ?ktC4 ?ktC5 ?ktC6 ?gsC ?tkC ?iI ?fnI ?lI ?cI ?kI ?lTDI ?inam ?fnnam ?lnam ?cnam ?knam ?ictv ?fnctv ?lctv ?cctv ?kctv ?icln ?fncln ?lcln ?ccln ?kcln ?icin ?fncin ?lcin ?ccin ?kcin ?iceq ?fnceq ?lceq ?cceq ?kceq ?aisNu ?lisNu ?cisNu ?kisNu ?aisW ?lisW ?cisW ?kisW ?aisL ?lisL ?cisL ?kisL ?aisN ?lisN ?cisN ?kisN ?aare ?lare ?care ?kare ?atold ?ltold ?ctold ?ktold ?acan ?lcan ?ccan ?kcan ?gLE ?gML ?gMV ?gMC ?gMF ?aL ?pgL ?hdL ?poL ?saL ?nL0 ?nL1 ?mkL ?kkL ?clL ?moL ?neL ?tyL ?ktL0 ?ktL1 ?ktL2 ?ktL3 ?ktL4 ?ktL5 ?ktL6 ?sfL ?iJ ?fnJ ?lJ ?cJ ?kJ ?ilfo ?fnlfo ?llfo ?clfo ?klfo ?ilca ?fnlca ?llca ?clca ?klca ?filca ?ilan ?fnlan ?llan ?clan ?klan ?ilor ?fnlor ?llor ?clor ?klor ?ilsu ?fnlsu ?llsu ?clsu ?klsu ?ilxo ?fnlxo ?llxo ?clxo ?klxo ?iliv ?fnliv ?lliv ?cliv ?kliv ?acnt ?lcnt ?ccnt ?kcnt ?afin ?lfin ?cfin ?kfin ?afsm ?lfsm ?cfsm ?kfsm ?ajoi ?ljoi ?cjoi ?kjoi ?aava ?lava ?cava ?kava ?aanu ?lanu ?canu ?kanu ?ahas ?lhas ?chas ?khas ?asm2 ?lsm2 ?csm2 ?ksm2 ?anmb ?lnmb ?cnmb ?knmb ?aeve ?leve ?ceve ?keve ?gGN ?gNUM ?lNUM ?gOTH ?lOTH ?gWAY ?lWAY ?gMT ?ileq ?fnleq ?lleq ?cleq ?kleq ?aP ?pgP ?hdP ?poP ?saP ?nP0 ?nP1 ?nP2 ?nP3 ?nP4 ?nP5 ?mkP ?kkP ?clP ?moP ?neP ?tyP ?ktP0 ?ktP1 ?ktP2 ?ktP3 ?ktP4 ?ktP5 ?ktP6 ?aD ?pgD ?hdD ?poD ?saD ?nD0 ?nD1 ?nD2 ?nD3 ?nD4 ?nD5 ?nD6 ?nD7 ?mkD ?kkD ?clD ?moD ?neD ?tyD ?ktD0 ?ktD1 ?ktD2 ?ktD3 ?ktD4 ?ktD5 ?ktD6 ?aH ?pgH ?hdH ?poH ?saH ?nH0 ?nH1 ?nH2 ?nH3 ?nH4 ?nH5 ?nH6 ?nH7 ?nH8 ?mkH ?kkH ?clH ?moH ?neH ?tyH ?ktH0 ?ktH1 ?ktH2 ?ktH3 ?ktH4 ?ktH5 ?ktH6 ?iQ ?fnQ ?lQ ?cQ ?kQ ?qQwhen ?qQhow ?iZ ?fnZ ?lZ ?cZ ?kZ ?qZmost ?qZby ?qZwhen ?qZmust ?qZhow ?iU ?fnU ?lU ?cU ?kU ?qUby ?qUwhen ?qUmust ?qUhow ?lEBD ?ipto ?fnpto ?lpto ?cpto ?kpto ?ipbn ?fnpbn ?lpbn ?cpbn ?kpbn ?ippr ?fnppr ?lppr ?cppr ?kppr ?ipqe ?fnpqe ?lpqe ?cpqe ?kpqe ?idto ?fndto ?ldto ?cdto ?kdto ?idbn ?fndbn ?ldbn ?cdbn ?kdbn ?idpr ?fndpr ?ldpr ?cdpr ?kdpr ?idqe ?fndqe ?ldqe ?cdqe ?kdqe ?ihto ?fnhto ?lhto ?chto ?khto ?ihbn ?fnhbn ?lhbn ?chbn ?khbn ?ihpr ?fnhpr ?lhpr ?chpr ?khpr ?ihqe ?fnhqe ?lhqe ?chqe ?khqe ?aaxs ?laxs ?caxs ?kaxs ?afbb ?lfbb ?cfbb ?kfbb ?afal ?lfal ?cfal ?kfal ?asrc ?lsrc ?csrc ?ksrc ?amom ?lmom ?cmom ?kmom ?acap ?lcap ?ccap ?kcap ?aisc ?lisc ?cisc ?kisc ?aarc ?larc ?carc ?karc ?acop ?lcop ?ccop ?kcop ?acos ?lcos ?ccos ?kcos ?acog ?lcog ?ccog ?kcog ?agua ?lgua ?cgua ?kgua ?aord ?lord ?cord ?kord ?acho ?lcho ?ccho ?kcho ?ache ?lche ?cche ?kche ?aoby ?loby ?coby ?koby ?sCL ?sLL ?sPP ?sDP ?sHP ?sLP ?sDD ?sPD ?sHD ?sLD ?sHH ?sPH ?sDH ?sLH ?apick ?lpick ?cpick ?kpick ?adraw ?ldraw ?cdraw ?kdraw ?astart ?lstart ?cstart ?kstart ?aword ?lword ?cword ?kword ?awords ?lwords ?cwords ?kwords ?awo ?lwo ?cwo ?kwo ?acof ?lcof ?ccof ?kcof ?ale ?lle ?cle ?kle ?aspr ?lspr ?cspr ?kspr ?asame ?lsame ?csame ?ksame ?asom ?lsom ?csom ?ksom ?aslk ?lslk ?cslk ?kslk ?alok ?llok ?clok ?klok ?alof ?llof ?clof ?klof ?ahld ?lhld ?chld ?khld ?afds ?lfds ?cfds ?kfds ?alsr ?llsr ?clsr ?klsr ?alch ?llch ?clch ?klch ?aodr ?lodr ?codr ?kodr ?abar ?lbar ?cbar ?kbar ?alpu ?llpu ?clpu ?klpu ?asta ?lsta ?csta ?ksta ?almd ?llmd ?clmd ?klmd ?alik ?llik ?clik ?klik ?awip ?lwip ?cwip ?kwip ?awid ?lwid ?cwid ?kwid ?anud ?lnud ?cnud ?knud ?aben ?lben ?cben ?kben ?asho ?lsho ?csho ?ksho ?alaw ?llaw ?claw ?klaw ?z_len ?z_list ?z_tuple ?z_zip ?z_enumerate ?z_range ?z_any ?z_all ?z_isinstance ?z_int ?z_str ?z_bool ?z_dict ?z_sum ?z_set ?z_sorted
    (case aC => k_is)
    (case pgC => k_is)
    (case hdC => k_is)
    (case poC => k_is)
    (case saC => k_is)
    (case nC0 => k_is)
    (case mkC => k_is)
    (case kkC => k_is)
    (case clC => k_is)
    (case moC => k_is)
    (case neC => k_is)
    (case tyC => k_is)
    (case ktC0 => first | k_is | rfl | (with_unfolding_all rfl))
    (case ktC1 => first | k_is | rfl | (with_unfolding_all rfl))
    (case ktC2 => first | k_is | rfl | (with_unfolding_all rfl))
    (case ktC3 => first | k_is | rfl | (with_unfolding_all rfl))
    (case ktC4 => first | k_is | rfl | (with_unfolding_all rfl))
    (case ktC5 => first | k_is | rfl | (with_unfolding_all rfl))
    (case ktC6 => first | k_is | rfl | (with_unfolding_all rfl))
    (case gsC => k_is)
    (case tkC => k_is)
    (case iI => k_is)
    (case fnI => k_is)
    (case lI => k_is)
    (case cI => k_is)
    (case kI => k_is)
    (case lTDI => k_is)
    (case inam => k_is)
    (case fnnam => k_is)
    (case lnam => k_is)
    (case cnam => k_is)
    (case knam => k_is)
    (case ictv => k_is)
    (case fnctv => k_is)
    (case lctv => k_is)
    (case cctv => k_is)
    (case kctv => k_is)
    (case icln => k_is)
    (case fncln => k_is)
    (case lcln => k_is)
    (case ccln => k_is)
    (case kcln => k_is)
    (case icin => k_is)
    (case fncin => k_is)
    (case lcin => k_is)
    (case ccin => k_is)
    (case kcin => k_is)
    (case iceq => k_is)
    (case fnceq => k_is)
    (case lceq => k_is)
    (case cceq => k_is)
    (case kceq => k_is)
    (case aisNu => k_is)
    (case lisNu => k_is)
    (case cisNu => k_is)
    (case kisNu => k_is)
    (case aisW => k_is)
    (case lisW => k_is)
    (case cisW => k_is)
    (case kisW => k_is)
    (case aisL => k_is)
    (case lisL => k_is)
    (case cisL => k_is)
    (case kisL => k_is)
    (case aisN => k_is)
    (case lisN => k_is)
    (case cisN => k_is)
    (case kisN => k_is)
    (case aare => k_is)
    (case lare => k_is)
    (case care => k_is)
    (case kare => k_is)
    (case atold => k_is)
    (case ltold => k_is)
    (case ctold => k_is)
    (case ktold => k_is)
    (case acan => k_is)
    (case lcan => k_is)
    (case ccan => k_is)
    (case kcan => k_is)
    (case gLE => k_is)
    (case gML => k_is)
    (case gMV => k_is)
    (case gMC => k_is)
    (case gMF => k_is)
    (case aL => k_is)
    (case pgL => k_is)
    (case hdL => k_is)
    (case poL => k_is)
    (case saL => k_is)
    (case nL0 => k_is)
    (case nL1 => k_is)
    (case mkL => k_is)
    (case kkL => k_is)
    (case clL => k_is)
    (case moL => k_is)
    (case neL => k_is)
    (case tyL => k_is)
    (case ktL0 => first | k_is | rfl | (with_unfolding_all rfl))
    (case ktL1 => first | k_is | rfl | (with_unfolding_all rfl))
    (case ktL2 => first | k_is | rfl | (with_unfolding_all rfl))
    (case ktL3 => first | k_is | rfl | (with_unfolding_all rfl))
    (case ktL4 => first | k_is | rfl | (with_unfolding_all rfl))
    (case ktL5 => first | k_is | rfl | (with_unfolding_all rfl))
    (case ktL6 => first | k_is | rfl | (with_unfolding_all rfl))
    (case sfL => k_is)
    (case iJ => k_is)
    (case fnJ => k_is)
    (case lJ => k_is)
    (case cJ => k_is)
    (case kJ => k_is)
    (case ilfo => k_is)
    (case fnlfo => k_is)
    (case llfo => k_is)
    (case clfo => k_is)
    (case klfo => k_is)
    (case ilca => k_is)
    (case fnlca => k_is)
    (case llca => k_is)
    (case clca => k_is)
    (case klca => k_is)
    (case filca => k_is)
    (case ilan => k_is)
    (case fnlan => k_is)
    (case llan => k_is)
    (case clan => k_is)
    (case klan => k_is)
    (case ilor => k_is)
    (case fnlor => k_is)
    (case llor => k_is)
    (case clor => k_is)
    (case klor => k_is)
    (case ilsu => k_is)
    (case fnlsu => k_is)
    (case llsu => k_is)
    (case clsu => k_is)
    (case klsu => k_is)
    (case ilxo => k_is)
    (case fnlxo => k_is)
    (case llxo => k_is)
    (case clxo => k_is)
    (case klxo => k_is)
    (case iliv => k_is)
    (case fnliv => k_is)
    (case lliv => k_is)
    (case cliv => k_is)
    (case kliv => k_is)
    (case acnt => k_is)
    (case lcnt => k_is)
    (case ccnt => k_is)
    (case kcnt => k_is)
    (case afin => k_is)
    (case lfin => k_is)
    (case cfin => k_is)
    (case kfin => k_is)
    (case afsm => k_is)
    (case lfsm => k_is)
    (case cfsm => k_is)
    (case kfsm => k_is)
    (case ajoi => k_is)
    (case ljoi => k_is)
    (case cjoi => k_is)
    (case kjoi => k_is)
    (case aava => k_is)
    (case lava => k_is)
    (case cava => k_is)
    (case kava => k_is)
    (case aanu => k_is)
    (case lanu => k_is)
    (case canu => k_is)
    (case kanu => k_is)
    (case ahas => k_is)
    (case lhas => k_is)
    (case chas => k_is)
    (case khas => k_is)
    (case asm2 => k_is)
    (case lsm2 => k_is)
    (case csm2 => k_is)
    (case ksm2 => k_is)
    (case anmb => k_is)
    (case lnmb => k_is)
    (case cnmb => k_is)
    (case knmb => k_is)
    (case aeve => k_is)
    (case leve => k_is)
    (case ceve => k_is)
    (case keve => k_is)
    (case gGN => k_is)
    (case gNUM => k_is)
    (case lNUM => k_is)
    (case gOTH => k_is)
    (case lOTH => k_is)
    (case gWAY => k_is)
    (case lWAY => k_is)
    (case gMT => k_is)
    (case ileq => k_is)
    (case fnleq => k_is)
    (case lleq => k_is)
    (case cleq => k_is)
    (case kleq => k_is)
    (case aP => k_is)
    (case pgP => k_is)
    (case hdP => k_is)
    (case poP => k_is)
    (case saP => k_is)
    (case nP0 => k_is)
    (case nP1 => k_is)
    (case nP2 => k_is)
    (case nP3 => k_is)
    (case nP4 => k_is)
    (case nP5 => k_is)
    (case mkP => k_is)
    (case kkP => k_is)
    (case clP => k_is)
    (case moP => k_is)
    (case neP => k_is)
    (case tyP => k_is)
    (case ktP0 => first | k_is | rfl | (with_unfolding_all rfl))
    (case ktP1 => first | k_is | rfl | (with_unfolding_all rfl))
    (case ktP2 => first | k_is | rfl | (with_unfolding_all rfl))
    (case ktP3 => first | k_is | rfl | (with_unfolding_all rfl))
    (case ktP4 => first | k_is | rfl | (with_unfolding_all rfl))
    (case ktP5 => first | k_is | rfl | (with_unfolding_all rfl))
    (case ktP6 => first | k_is | rfl | (with_unfolding_all rfl))
    (case aD => k_is)
    (case pgD => k_is)
    (case hdD => k_is)
    (case poD => k_is)
    (case saD => k_is)
    (case nD0 => k_is)
    (case nD1 => k_is)
    (case nD2 => k_is)
    (case nD3 => k_is)
    (case nD4 => k_is)
    (case nD5 => k_is)
    (case nD6 => k_is)
    (case nD7 => k_is)
    (case mkD => k_is)
    (case kkD => k_is)
    (case clD => k_is)
    (case moD => k_is)
    (case neD => k_is)
    (case tyD => k_is)
    (case ktD0 => first | k_is | rfl | (with_unfolding_all rfl))
    (case ktD1 => first | k_is | rfl | (with_unfolding_all rfl))
    (case ktD2 => first | k_is | rfl | (with_unfolding_all rfl))
    (case ktD3 => first | k_is | rfl | (with_unfolding_all rfl))
    (case ktD4 => first | k_is | rfl | (with_unfolding_all rfl))
    (case ktD5 => first | k_is | rfl | (with_unfolding_all rfl))
    (case ktD6 => first | k_is | rfl | (with_unfolding_all rfl))
    (case aH => k_is)
    (case pgH => k_is)
    (case hdH => k_is)
    (case poH => k_is)
    (case saH => k_is)
    (case nH0 => k_is)
    (case nH1 => k_is)
    (case nH2 => k_is)
    (case nH3 => k_is)
    (case nH4 => k_is)
    (case nH5 => k_is)
    (case nH6 => k_is)
    (case nH7 => k_is)
    (case nH8 => k_is)
    (case mkH => k_is)
    (case kkH => k_is)
    (case clH => k_is)
    (case moH => k_is)
    (case neH => k_is)
    (case tyH => k_is)
    (case ktH0 => first | k_is | rfl | (with_unfolding_all rfl))
    (case ktH1 => first | k_is | rfl | (with_unfolding_all rfl))
    (case ktH2 => first | k_is | rfl | (with_unfolding_all rfl))
    (case ktH3 => first | k_is | rfl | (with_unfolding_all rfl))
    (case ktH4 => first | k_is | rfl | (with_unfolding_all rfl))
    (case ktH5 => first | k_is | rfl | (with_unfolding_all rfl))
    (case ktH6 => first | k_is | rfl | (with_unfolding_all rfl))
    (case iQ => k_is)
    (case fnQ => k_is)
    (case lQ => k_is)
    (case cQ => k_is)
    (case kQ => k_is)
    (case qQwhen => k_is)
    (case qQhow => k_is)
    (case iZ => k_is)
    (case fnZ => k_is)
    (case lZ => k_is)
    (case cZ => k_is)
    (case kZ => k_is)
    (case qZmost => k_is)
    (case qZby => k_is)
    (case qZwhen => k_is)
    (case qZmust => k_is)
    (case qZhow => k_is)
    (case iU => k_is)
    (case fnU => k_is)
    (case lU => k_is)
    (case cU => k_is)
    (case kU => k_is)
    (case qUby => k_is)
    (case qUwhen => k_is)
    (case qUmust => k_is)
    (case qUhow => k_is)
    (case lEBD => k_is)
    (case ipto => k_is)
    (case fnpto => k_is)
    (case lpto => k_is)
    (case cpto => k_is)
    (case kpto => k_is)
    (case ipbn => k_is)
    (case fnpbn => k_is)
    (case lpbn => k_is)
    (case cpbn => k_is)
    (case kpbn => k_is)
    (case ippr => k_is)
    (case fnppr => k_is)
    (case lppr => k_is)
    (case cppr => k_is)
    (case kppr => k_is)
    (case ipqe => k_is)
    (case fnpqe => k_is)
    (case lpqe => k_is)
    (case cpqe => k_is)
    (case kpqe => k_is)
    (case idto => k_is)
    (case fndto => k_is)
    (case ldto => k_is)
    (case cdto => k_is)
    (case kdto => k_is)
    (case idbn => k_is)
    (case fndbn => k_is)
    (case ldbn => k_is)
    (case cdbn => k_is)
    (case kdbn => k_is)
    (case idpr => k_is)
    (case fndpr => k_is)
    (case ldpr => k_is)
    (case cdpr => k_is)
    (case kdpr => k_is)
    (case idqe => k_is)
    (case fndqe => k_is)
    (case ldqe => k_is)
    (case cdqe => k_is)
    (case kdqe => k_is)
    (case ihto => k_is)
    (case fnhto => k_is)
    (case lhto => k_is)
    (case chto => k_is)
    (case khto => k_is)
    (case ihbn => k_is)
    (case fnhbn => k_is)
    (case lhbn => k_is)
    (case chbn => k_is)
    (case khbn => k_is)
    (case ihpr => k_is)
    (case fnhpr => k_is)
    (case lhpr => k_is)
    (case chpr => k_is)
    (case khpr => k_is)
    (case ihqe => k_is)
    (case fnhqe => k_is)
    (case lhqe => k_is)
    (case chqe => k_is)
    (case khqe => k_is)
    (case aaxs => k_is)
    (case laxs => k_is)
    (case caxs => k_is)
    (case kaxs => k_is)
    (case afbb => k_is)
    (case lfbb => k_is)
    (case cfbb => k_is)
    (case kfbb => k_is)
    (case afal => k_is)
    (case lfal => k_is)
    (case cfal => k_is)
    (case kfal => k_is)
    (case asrc => k_is)
    (case lsrc => k_is)
    (case csrc => k_is)
    (case ksrc => k_is)
    (case amom => k_is)
    (case lmom => k_is)
    (case cmom => k_is)
    (case kmom => k_is)
    (case acap => k_is)
    (case lcap => k_is)
    (case ccap => k_is)
    (case kcap => k_is)
    (case aisc => k_is)
    (case lisc => k_is)
    (case cisc => k_is)
    (case kisc => k_is)
    (case aarc => k_is)
    (case larc => k_is)
    (case carc => k_is)
    (case karc => k_is)
    (case acop => k_is)
    (case lcop => k_is)
    (case ccop => k_is)
    (case kcop => k_is)
    (case acos => k_is)
    (case lcos => k_is)
    (case ccos => k_is)
    (case kcos => k_is)
    (case acog => k_is)
    (case lcog => k_is)
    (case ccog => k_is)
    (case kcog => k_is)
    (case agua => k_is)
    (case lgua => k_is)
    (case cgua => k_is)
    (case kgua => k_is)
    (case aord => k_is)
    (case lord => k_is)
    (case cord => k_is)
    (case kord => k_is)
    (case acho => k_is)
    (case lcho => k_is)
    (case ccho => k_is)
    (case kcho => k_is)
    (case ache => k_is)
    (case lche => k_is)
    (case cche => k_is)
    (case kche => k_is)
    (case aoby => k_is)
    (case loby => k_is)
    (case coby => k_is)
    (case koby => k_is)
    (case sCL => k_is)
    (case sLL => k_is)
    (case sPP => k_is)
    (case sDP => k_is)
    (case sHP => k_is)
    (case sLP => k_is)
    (case sDD => k_is)
    (case sPD => k_is)
    (case sHD => k_is)
    (case sLD => k_is)
    (case sHH => k_is)
    (case sPH => k_is)
    (case sDH => k_is)
    (case sLH => k_is)
    (case apick => k_is)
    (case lpick => k_is)
    (case cpick => k_is)
    (case kpick => k_is)
    (case adraw => k_is)
    (case ldraw => k_is)
    (case cdraw => k_is)
    (case kdraw => k_is)
    (case astart => k_is)
    (case lstart => k_is)
    (case cstart => k_is)
    (case kstart => k_is)
    (case aword => k_is)
    (case lword => k_is)
    (case cword => k_is)
    (case kword => k_is)
    (case awords => k_is)
    (case lwords => k_is)
    (case cwords => k_is)
    (case kwords => k_is)
    (case awo => k_is)
    (case lwo => k_is)
    (case cwo => k_is)
    (case kwo => k_is)
    (case acof => k_is)
    (case lcof => k_is)
    (case ccof => k_is)
    (case kcof => k_is)
    (case ale => k_is)
    (case lle => k_is)
    (case cle => k_is)
    (case kle => k_is)
    (case aspr => k_is)
    (case lspr => k_is)
    (case cspr => k_is)
    (case kspr => k_is)
    (case asame => k_is)
    (case lsame => k_is)
    (case csame => k_is)
    (case ksame => k_is)
    (case asom => k_is)
    (case lsom => k_is)
    (case csom => k_is)
    (case ksom => k_is)
    (case aslk => k_is)
    (case lslk => k_is)
    (case cslk => k_is)
    (case kslk => k_is)
    (case alok => k_is)
    (case llok => k_is)
    (case clok => k_is)
    (case klok => k_is)
    (case alof => k_is)
    (case llof => k_is)
    (case clof => k_is)
    (case klof => k_is)
    (case ahld => k_is)
    (case lhld => k_is)
    (case chld => k_is)
    (case khld => k_is)
    (case afds => k_is)
    (case lfds => k_is)
    (case cfds => k_is)
    (case kfds => k_is)
    (case alsr => k_is)
    (case llsr => k_is)
    (case clsr => k_is)
    (case klsr => k_is)
    (case alch => k_is)
    (case llch => k_is)
    (case clch => k_is)
    (case klch => k_is)
    (case aodr => k_is)
    (case lodr => k_is)
    (case codr => k_is)
    (case kodr => k_is)
    (case abar => k_is)
    (case lbar => k_is)
    (case cbar => k_is)
    (case kbar => k_is)
    (case alpu => k_is)
    (case llpu => k_is)
    (case clpu => k_is)
    (case klpu => k_is)
    (case asta => k_is)
    (case lsta => k_is)
    (case csta => k_is)
    (case ksta => k_is)
    (case almd => k_is)
    (case llmd => k_is)
    (case clmd => k_is)
    (case klmd => k_is)
    (case alik => k_is)
    (case llik => k_is)
    (case clik => k_is)
    (case klik => k_is)
    (case awip => k_is)
    (case lwip => k_is)
    (case cwip => k_is)
    (case kwip => k_is)
    (case awid => k_is)
    (case lwid => k_is)
    (case cwid => k_is)
    (case kwid => k_is)
    (case anud => k_is)
    (case lnud => k_is)
    (case cnud => k_is)
    (case knud => k_is)
    (case aben => k_is)
    (case lben => k_is)
    (case cben => k_is)
    (case kben => k_is)
    (case asho => k_is)
    (case lsho => k_is)
    (case csho => k_is)
    (case ksho => k_is)
    (case alaw => k_is)
    (case llaw => k_is)
    (case claw => k_is)
    (case klaw => k_is)
    (case z_len => k_is)
    (case z_list => k_is)
    (case z_tuple => k_is)
    (case z_zip => k_is)
    (case z_enumerate => k_is)
    (case z_range => k_is)
    (case z_any => k_is)
    (case z_all => k_is)
    (case z_isinstance => k_is)
    (case z_int => k_is)
    (case z_str => k_is)
    (case z_bool => k_is)
    (case z_dict => k_is)
    (case z_sum => k_is)
    (case z_set => k_is)
    (case z_sorted => k_is)

