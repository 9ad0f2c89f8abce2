import PyProof.Rows.All
import Wide.All
import OpenK.AllK
import Wide.FinOn
import HandS.ForMost
import HandS.IsInst
import HandS.Walk
import HandS.Strs
import HandS.Style
import HandS.More
import HandS.Conv
import HandS.Flow
import HandS.TupAny
import HandS.DictEq
import HandS.Steps
import HandS.Codes
import HandS.Zip
import HandS.OwnEq
import HandS.ForExc
import KE.GoesEnum
import KE.GoesMore
import HandS.Exc
import HandS.ExcInit
import HandS.Defaults
import KE.KExcIs
import KE.KEqSeq
import HandS.Words
import HandS.ListItems
import HandS.SlotsOwn
import HandS.SortKw
import KE.SortKeyHeap
import KE.SortData
import KE.KDictSum
import HandS.SortInts
import HandS.MakeKwOnly
import HandS.DictComp
import HandS.DeepEq
import KE.KIntText
import PyProof.StrOps2
import HandS.Star
import HandS.TryOnly
import PySem.Challenge.RW_toldthere_k03_looks_found
import HandS.ExcField
set_option Elab.async false
set_option linter.all false
set_option maxRecDepth 100000
set_option maxHeartbeats 4000000
/-! Trees: values as trees D (leaves, lists, tuples, dicts, instances), what represents them in a heap (Rep), slots (Env, EnvOk), and readings of expressions over trees. -/
namespace L2.Tr
open PySem PySem.Spec PyProof.Rows
/-- a value as a tree: seq true is a list, seq false a tuple; a dict by its keys and values; an instance by its fields -/
inductive D where
  | leaf (v : V)
  | seq (b : Bool) (xs : List D)
  | dct (ks : List Key) (xs : List D)
  | obj (C : Addr) (ns : List Str) (xs : List D)
  /-- a dict that a loop has locked -/
  | frz (ks : List Key) (xs : List D)
def leafy : V → Bool
  | .non => true
  | .bl _ => true
  | .int _ => true
  | .str x => decide (x.length ≤ 1000)
  | .ref _ => true
  | _ => false
abbrev mkS (b : Bool) (us : List V) : HO := cond b (.lst us) (.tup us)
abbrev Lim : Nat := 5000
mutual
def Rep (H : Hp) : D → V → Prop
  | .leaf x, v => v = x ∧ leafy x = true
  | .seq b ds, v => ∃ a us, v = .ref a ∧ H a = some (mkS b us) ∧ ds.length ≤ Lim ∧ Reps H ds us
  | .dct ks ds, v => ∃ a us, v = .ref a ∧ H a = some (.dK (ks.zip us)) ∧ ks.length = ds.length ∧ ds.length ≤ Lim ∧ Reps H ds us
  | .obj C ns ds, v => ∃ a dx us, v = .ref a ∧ H a = some (.ins C dx (ns.zip us)) ∧ ns.length = ds.length ∧ Reps H ds us
  | .frz ks ds, v => ∃ a us o, v = .ref a ∧ H a = some (.frz o (.dK (ks.zip us))) ∧ ks.length = ds.length ∧ ds.length ≤ Lim ∧ Reps H ds us
def Reps (H : Hp) : List D → List V → Prop
  | [], us => us = []
  | d :: ds, us => ∃ u r, us = u :: r ∧ Rep H d u ∧ Reps H ds r
end
/-- all that was tracked is as it was -/
def Ex (H H' : Hp) : Prop := ∀ a o, H a = some o → H' a = some o
theorem Ex.refl (H : Hp) : Ex H H := fun _ _ h => h
theorem Ex.trans {H H' H2 : Hp} (a : Ex H H') (b : Ex H' H2) : Ex H H2 := fun x o h => b x o (a x o h)
theorem Ex.new {H : Hp} {p : Addr} {o : HO} (h : H p = none) : Ex H (upd H p o) := fun a u e => by
  rw [upd_ne (ne_of_none e h)]; exact e
theorem Ex.back {H H' : Hp} {p : Addr} (e : Ex H H') (h : H' p = none) : H p = none := by
  cases q : H p with
  | none => rfl
  | some o => rw [e p o q] at h; cases h
mutual
theorem Rep.mono {H H' : Hp} (e : Ex H H') : ∀ {d : D} {v : V}, Rep H d v → Rep H' d v
  | .leaf x, v, h => by unfold Rep at h ⊢; exact h
  | .seq b ds, v, h => by
    unfold Rep at h ⊢
    obtain ⟨a, us, h1, h2, h3, h4⟩ := h
    exact ⟨a, us, h1, e _ _ h2, h3, Reps.mono e h4⟩
  | .dct ks ds, v, h => by
    unfold Rep at h ⊢
    obtain ⟨a, us, h1, h2, h3, h4, h5⟩ := h
    exact ⟨a, us, h1, e _ _ h2, h3, h4, Reps.mono e h5⟩
  | .frz ks ds, v, h => by
    unfold Rep at h ⊢
    obtain ⟨a, us, o, h1, h2, h3, h4, h5⟩ := h
    exact ⟨a, us, o, h1, e _ _ h2, h3, h4, Reps.mono e h5⟩
  | .obj C ns ds, v, h => by
    unfold Rep at h ⊢
    obtain ⟨a, dx, us, h1, h2, h3, h4⟩ := h
    exact ⟨a, dx, us, h1, e _ _ h2, h3, Reps.mono e h4⟩
theorem Reps.mono {H H' : Hp} (e : Ex H H') : ∀ {ds : List D} {us : List V}, Reps H ds us → Reps H' ds us
  | [], us, h => by unfold Reps at h ⊢; exact h
  | d :: ds, us, h => by
    unfold Reps at h ⊢
    obtain ⟨u, r, h1, h2, h3⟩ := h
    exact ⟨u, r, h1, Rep.mono e h2, Reps.mono e h3⟩
end
section
variable {H H' : Hp} {d : D} {ds es : List D} {u v : V} {us ws : List V}
theorem Reps.nil : Reps H [] [] := by unfold Reps; rfl
theorem Reps.cons (h : Rep H d u) (t : Reps H ds us) : Reps H (d :: ds) (u :: us) := by unfold Reps; exact ⟨u, us, rfl, h, t⟩
theorem Reps.un (h : Reps H (d :: ds) us) : ∃ u r, us = u :: r ∧ Rep H d u ∧ Reps H ds r := by unfold Reps at h; exact h
theorem Reps.un0 (h : Reps H [] us) : us = [] := by unfold Reps at h; exact h
theorem Rep.lf {x : V} (h : leafy x = true) : Rep H (.leaf x) x := by unfold Rep; exact ⟨rfl, h⟩
theorem Rep.un_lf {x : V} (h : Rep H (.leaf x) v) : v = x ∧ leafy x = true := by unfold Rep at h; exact h
theorem Rep.sq {b : Bool} {a : Addr} (h : H a = some (mkS b us)) (hl : ds.length ≤ Lim) (r : Reps H ds us) : Rep H (.seq b ds) (.ref a) := by unfold Rep; exact ⟨a, us, rfl, h, hl, r⟩
theorem Rep.un_sq {b : Bool} (h : Rep H (.seq b ds) v) : ∃ a us, v = .ref a ∧ H a = some (mkS b us) ∧ ds.length ≤ Lim ∧ Reps H ds us := by unfold Rep at h; exact h
theorem Rep.un_dct {ks : List Key} (h : Rep H (.dct ks ds) v) : ∃ a us, v = .ref a ∧ H a = some (.dK (ks.zip us)) ∧ ks.length = ds.length ∧ ds.length ≤ Lim ∧ Reps H ds us := by unfold Rep at h; exact h
theorem Rep.un_obj {C : Addr} {ns : List Str} (h : Rep H (.obj C ns ds) v) : ∃ a dx us, v = .ref a ∧ H a = some (.ins C dx (ns.zip us)) ∧ ns.length = ds.length ∧ Reps H ds us := by unfold Rep at h; exact h
theorem Rep.un_frz {ks : List Key} (h : Rep H (.frz ks ds) v) : ∃ a us o, v = .ref a ∧ H a = some (.frz o (.dK (ks.zip us))) ∧ ks.length = ds.length ∧ ds.length ≤ Lim ∧ Reps H ds us := by unfold Rep at h; exact h
theorem Rep.fz {ks : List Key} {a : Addr} {o : Obj} (h : H a = some (.frz o (.dK (ks.zip us)))) (hk : ks.length = ds.length) (hl : ds.length ≤ Lim) (r : Reps H ds us) : Rep H (.frz ks ds) (.ref a) := by unfold Rep; exact ⟨a, us, o, rfl, h, hk, hl, r⟩
theorem Rep.dc {ks : List Key} {a : Addr} (h : H a = some (.dK (ks.zip us))) (hk : ks.length = ds.length) (hl : ds.length ≤ Lim) (r : Reps H ds us) : Rep H (.dct ks ds) (.ref a) := by unfold Rep; exact ⟨a, us, rfl, h, hk, hl, r⟩
theorem Rep.ob {C dx : Addr} {ns : List Str} {a : Addr} (h : H a = some (.ins C dx (ns.zip us))) (hk : ns.length = ds.length) (r : Reps H ds us) : Rep H (.obj C ns ds) (.ref a) := by unfold Rep; exact ⟨a, dx, us, rfl, h, hk, r⟩
end
section
variable {H : Hp}
theorem Reps.len : ∀ {ds : List D} {us : List V}, Reps H ds us → us.length = ds.length
  | [], us, h => by rw [h.un0]; rfl
  | d :: ds, us, h => by
    obtain ⟨u, r, rfl, _, t⟩ := h.un
    rw [List.length_cons, List.length_cons, t.len]
theorem Reps.get : ∀ {ds : List D} {us : List V} {i : Nat} {d : D}, Reps H ds us → ds[i]? = some d → ∃ u, us[i]? = some u ∧ Rep H d u
  | [], us, i, d, h, e => by simp at e
  | d0 :: ds, us, 0, d, h, e => by
    obtain ⟨u, r, rfl, q, t⟩ := h.un
    cases e
    exact ⟨u, rfl, q⟩
  | d0 :: ds, us, i + 1, d, h, e => by
    obtain ⟨u, r, rfl, q, t⟩ := h.un
    obtain ⟨w, h1, h2⟩ := t.get (i := i) (d := d) (by simpa using e)
    exact ⟨w, by simpa using h1, h2⟩
theorem Reps.getV : ∀ {ds : List D} {us : List V} {i : Nat} {u : V}, Reps H ds us → us[i]? = some u → ∃ d, ds[i]? = some d ∧ Rep H d u := fun {ds us i u} h e => by
  have hl : i < us.length := (List.getElem?_eq_some_iff.mp e).1
  have hl2 : i < ds.length := by rw [← h.len]; exact hl
  obtain ⟨w, h1, h2⟩ := h.get (List.getElem?_eq_getElem hl2)
  rw [e] at h1
  cases h1
  exact ⟨_, List.getElem?_eq_getElem hl2, h2⟩
theorem Reps.app : ∀ {ds es : List D} {us ws : List V}, Reps H ds us → Reps H es ws → Reps H (ds ++ es) (us ++ ws)
  | [], es, us, ws, h, k => by rw [h.un0]; exact k
  | d :: ds, es, us, ws, h, k => by
    obtain ⟨u, r, rfl, q, t⟩ := h.un
    exact .cons q (t.app k)
theorem Reps.tk : ∀ (n : Nat) {ds : List D} {us : List V}, Reps H ds us → Reps H (ds.take n) (us.take n)
  | 0, _, _, _ => by rw [List.take_zero, List.take_zero]; exact .nil
  | n + 1, [], us, h => by rw [h.un0]; exact .nil
  | n + 1, d :: ds, us, h => by
    obtain ⟨u, r, rfl, q, t⟩ := h.un
    exact .cons q (t.tk n)
theorem Reps.dp : ∀ (n : Nat) {ds : List D} {us : List V}, Reps H ds us → Reps H (ds.drop n) (us.drop n)
  | 0, _, _, h => h
  | n + 1, [], us, h => by rw [h.un0]; exact .nil
  | n + 1, d :: ds, us, h => by
    obtain ⟨u, r, rfl, q, t⟩ := h.un
    exact t.dp n
theorem Reps.rev : ∀ {ds : List D} {us : List V}, Reps H ds us → Reps H ds.reverse us.reverse
  | [], us, h => by rw [h.un0]; exact .nil
  | d :: ds, us, h => by
    obtain ⟨u, r, rfl, q, t⟩ := h.un
    rw [List.reverse_cons, List.reverse_cons]
    exact t.rev.app (.cons q .nil)
theorem Reps.st {d : D} {u : V} (r : Rep H d u) : ∀ (i : Nat) {ds : List D} {us : List V}, Reps H ds us → Reps H (ds.set i d) (us.set i u)
  | _, [], us, h => by rw [h.un0]; exact .nil
  | 0, d0 :: ds, us, h => by
    obtain ⟨w, s, rfl, q, t⟩ := h.un
    exact .cons r t
  | i + 1, d0 :: ds, us, h => by
    obtain ⟨w, s, rfl, q, t⟩ := h.un
    exact .cons q (t.st r i)
theorem Reps.repl {d : D} {u : V} (r : Rep H d u) : ∀ n : Nat, Reps H (List.replicate n d) (List.replicate n u)
  | 0 => .nil
  | n + 1 => .cons r (Reps.repl r n)
theorem Reps.flat {d : D} : ∀ n : Nat, True := fun _ => trivial
/-- leaves -/
theorem Reps.lfs : ∀ {vs : List V}, (∀ v ∈ vs, leafy v = true) → Reps H (vs.map D.leaf) vs
  | [], _ => .nil
  | v :: r, h => .cons (.lf (h v List.mem_cons_self)) (Reps.lfs fun w hw => h w (List.mem_cons_of_mem _ hw))
theorem Reps.un_lfs : ∀ {vs us : List V}, Reps H (vs.map D.leaf) us → us = vs
  | [], us, h => h.un0
  | v :: r, us, h => by
    obtain ⟨u, s, rfl, q, t⟩ := h.un
    rw [q.un_lf.1, t.un_lfs]
end
/-! ### slots -/
inductive Sl where
  | un
  /-- a value that is not written to -/
  | pu (d : D)
  /-- a list, a dict, an instance of the def's own, which no other value holds -/
  | ow (d : D)
abbrev Env := List Sl
/-- what stands at an own thing's address -/
def Top (G : Hp) : D → HO → Prop
  | .seq true ds, o => ∃ us, o = .lst us ∧ ds.length ≤ Lim ∧ Reps G ds us
  | .dct ks ds, o => ∃ us, o = .dK (ks.zip us) ∧ ks.length = ds.length ∧ ds.length ≤ Lim ∧ Reps G ds us
  | .obj C ns ds, o => ∃ dx us, o = .ins C dx (ns.zip us) ∧ ns.length = ds.length ∧ Reps G ds us
  | _, _ => False
theorem Top.mono {G G2 : Hp} (e : Ex G G2) : ∀ {d : D} {o : HO}, Top G d o → Top G2 d o
  | .seq true ds, o, ⟨us, h1, h2, h3⟩ => ⟨us, h1, h2, h3.mono e⟩
  | .dct ks ds, o, ⟨us, h1, h2, h3, h4⟩ => ⟨us, h1, h2, h3, h4.mono e⟩
  | .obj C ns ds, o, ⟨dx, us, h1, h2, h3⟩ => ⟨dx, us, h1, h2, h3.mono e⟩
theorem Top.rep {G H : Hp} (e : Ex G H) {a : Addr} : ∀ {d : D} {o : HO}, Top G d o → H a = some o → Rep H d (.ref a)
  | .seq true ds, o, ⟨us, h1, h2, h3⟩, h => by subst h1; exact .sq (b := true) h h2 (h3.mono e)
  | .dct ks ds, o, ⟨us, h1, h2, h3, h4⟩, h => by subst h1; exact .dc h h2 h3 (h4.mono e)
  | .obj C ns ds, o, ⟨dx, us, h1, h2, h3⟩, h => by subst h1; exact .ob h h2 (h3.mono e)
structure EnvOk (G H : Hp) (σ : St) (ρ : Env) : Prop where
  gh : Ex G H
  len : σ.length = ρ.length
  pu : ∀ (i : Nat) (d : D), ρ[i]? = some (Sl.pu d) → ∃ v, σ[i]? = some (some v) ∧ Rep G d v
  ow : ∀ (i : Nat) (d : D), ρ[i]? = some (Sl.ow d) → ∃ p o, σ[i]? = some (some (V.ref p)) ∧ G p = none ∧ H p = some o ∧ Top G d o
  inj : ∀ (i j : Nat) (ds es : D) (p : Addr), ρ[i]? = some (Sl.ow ds) → ρ[j]? = some (Sl.ow es) → σ[i]? = some (some (V.ref p)) → σ[j]? = some (some (V.ref p)) → i = j
/-- G, H grow to G2, H2; what is new in G2 is new -/
structure Fr (G H G2 H2 : Hp) : Prop where
  g : Ex G G2
  gh : Ex G2 H2
  h : Ex H H2
  nw : ∀ a, H a ≠ none → G a = none → G2 a = none
section
variable {G H G2 H2 G3 H3 : Hp} {σ : St} {ρ : Env}
theorem Fr.refl (e : Ex G H) : Fr G H G H := ⟨Ex.refl _, e, Ex.refl _, fun _ _ h => h⟩
theorem Fr.trans (a : Fr G H G2 H2) (b : Fr G2 H2 G3 H3) : Fr G H G3 H3 :=
  ⟨a.g.trans b.g, b.gh, a.h.trans b.h, fun x h1 h2 => b.nw x (fun z => h1 (a.h.back z)) (a.nw x h1 h2)⟩
theorem Fr.new {p : Addr} {o : HO} (e : Ex G H) (n : H p = none) : Fr G H (upd G p o) (upd H p o) :=
  ⟨Ex.new (e.back n), fun a u z => by
    by_cases h : a = p
    · rw [h, upd_same] at z ⊢; exact z
    · rw [upd_ne h] at z ⊢; exact e _ _ z, Ex.new n, fun a h1 h2 => by
    have : a ≠ p := fun z => h1 (z ▸ n)
    rw [upd_ne this]; exact h2⟩
/-- a thing that nothing keeps -/
theorem Fr.tmp {p : Addr} {o : HO} (e : Ex G H) (n : H p = none) : Fr G H G (upd H p o) := ⟨Ex.refl _, e.trans (Ex.new n), Ex.new n, fun _ _ h => h⟩
theorem Fr.of (e : Ex G H) (e2 : Ex H H2) : Fr G H G H2 := ⟨Ex.refl _, e.trans e2, e2, fun _ _ h => h⟩
theorem Fr.ne {p : Addr} (f : Fr G H G2 H2) (n : H2 p = none) : H p = none := f.h.back n
theorem EnvOk.mono (x : EnvOk G H σ ρ) (f : Fr G H G2 H2) : EnvOk G2 H2 σ ρ :=
  ⟨f.gh, x.len, fun i d e => let ⟨v, h1, h2⟩ := x.pu i d e; ⟨v, h1, h2.mono f.g⟩, fun i ds e => by
    obtain ⟨p, o, h1, h2, h3, h4⟩ := x.ow i ds e
    exact ⟨p, o, h1, f.nw p (fun z => by rw [h3] at z; cases z) h2, f.h _ _ h3, h4.mono f.g⟩, x.inj⟩
end
/-! ### what a reading gives -/
/-- a value that may be kept -/
def PuS (t : TE) (φ : Env → Option D) : Prop := ∀ ρ d, φ ρ = some d → ∀ (G H : Hp) (σ : St), EnvOk G H σ ρ → ∀ Q : VK, (∀ v G2 H2, Fr G H G2 H2 → Rep G2 d v → Q v H2) → t σ H Q
/-- one to be read at once: perhaps an own list -/
def View (G H : Hp) (d : D) (v : V) : Prop := Rep G d v ∨ ∃ a o, v = .ref a ∧ H a = some o ∧ Top G d o
def ViS (t : TE) (φ : Env → Option D) : Prop := ∀ ρ d, φ ρ = some d → ∀ (G H : Hp) (σ : St), EnvOk G H σ ρ → ∀ Q : VK, (∀ v G2 H2, Fr G H G2 H2 → View G2 H2 d v → Q v H2) → t σ H Q
/-- a new list -/
def OwS (t : TE) (φ : Env → Option (List D)) : Prop := ∀ ρ ds, φ ρ = some ds → ∀ (G H : Hp) (σ : St), EnvOk G H σ ρ → ∀ Q : VK,
  (∀ p us G2 H2, Fr G H G2 H2 → H p = none → G2 p = none → H2 p = some (.lst us) → ds.length ≤ Lim → Reps G2 ds us → Q (.ref p) H2) → t σ H Q
def TeS (t : TT) (φ : Env → Option Bool) : Prop := ∀ ρ b, φ ρ = some b → ∀ (G H : Hp) (σ : St), EnvOk G H σ ρ → ∀ Q : Bool → Hp → Prop, (∀ G2 H2, Fr G H G2 H2 → Q b H2) → t σ H Q
def ArS (t : TA) (φ : Env → Option (List D)) : Prop := ∀ ρ ds, φ ρ = some ds → ∀ (G H : Hp) (σ : St), EnvOk G H σ ρ → ∀ Q : List V → Hp → Prop, (∀ vs G2 H2, Fr G H G2 H2 → Reps G2 ds vs → Q vs H2) → t σ H Q
structure PuD (X : Cx) (e : Expr) (t : TE) (φ : Env → Option D) : Prop where
  pe : PE X e t
  ev : PuS t φ
structure ViD (X : Cx) (e : Expr) (t : TE) (φ : Env → Option D) : Prop where
  pe : PE X e t
  ev : ViS t φ
structure OwD (X : Cx) (e : Expr) (t : TE) (φ : Env → Option (List D)) : Prop where
  pe : PE X e t
  ev : OwS t φ
structure TeD (X : Cx) (e : Expr) (t : TT) (φ : Env → Option Bool) : Prop where
  pt : PT X e t
  ev : TeS t φ
structure TwD (X : Cx) (e : Expr) (t : TT) (φ : Env → Option Bool) : Prop where
  pw : PW X e t
  ev : TeS t φ
structure ArD (X : Cx) (es : List Expr) (t : TA) (φ : Env → Option (List D)) : Prop where
  pa : PA X es t
  ev : ArS t φ
theorem View.mono {G H G2 H2 : Hp} {d : D} {v : V} (f : Fr G H G2 H2) (h : View G H d v) : View G2 H2 d v := by
  rcases h with h | ⟨a, o, h1, h2, h3⟩
  · exact .inl (h.mono f.g)
  · exact .inr ⟨a, o, h1, f.h _ _ h2, h3.mono f.g⟩
theorem View.seq {G H : Hp} {b : Bool} {ds : List D} {v : V} (e : Ex G H) (h : View G H (.seq b ds) v) : ∃ a us, v = .ref a ∧ H a = some (mkS b us) ∧ ds.length ≤ Lim ∧ Reps G ds us := by
  rcases h with h | ⟨a, o, h1, h2, h3⟩
  · obtain ⟨a, us, h1, h2, h3, h4⟩ := h.un_sq
    exact ⟨a, us, h1, e _ _ h2, h3, h4⟩
  · cases b with
    | true =>
      obtain ⟨us, rfl, h4, h5⟩ := h3
      exact ⟨a, us, h1, h2, h4, h5⟩
    | false => exact h3.elim
theorem View.dct {G H : Hp} {ks : List Key} {ds : List D} {v : V} (e : Ex G H) (h : View G H (.dct ks ds) v) : ∃ a us, v = .ref a ∧ H a = some (.dK (ks.zip us)) ∧ ks.length = ds.length ∧ ds.length ≤ Lim ∧ Reps G ds us := by
  rcases h with h | ⟨a, o, h1, h2, h3⟩
  · obtain ⟨a, us, h1, h2, h3, h4, h5⟩ := h.un_dct
    exact ⟨a, us, h1, e _ _ h2, h3, h4, h5⟩
  · obtain ⟨us, rfl, h4, h5, h6⟩ := h3
    exact ⟨a, us, h1, h2, h4, h5, h6⟩
theorem View.obj {G H : Hp} {C : Addr} {ns : List Str} {ds : List D} {v : V} (e : Ex G H) (h : View G H (.obj C ns ds) v) : ∃ a dx us, v = .ref a ∧ H a = some (.ins C dx (ns.zip us)) ∧ ns.length = ds.length ∧ Reps G ds us := by
  rcases h with h | ⟨a, o, h1, h2, h3⟩
  · obtain ⟨a, dx, us, h1, h2, h3, h4⟩ := h.un_obj
    exact ⟨a, dx, us, h1, e _ _ h2, h3, h4⟩
  · obtain ⟨dx, us, rfl, h4, h5⟩ := h3
    exact ⟨a, dx, us, h1, h2, h4, h5⟩
theorem View.frz {G H : Hp} {ks : List Key} {ds : List D} {v : V} (h : View G H (.frz ks ds) v) : Rep G (.frz ks ds) v := by
  rcases h with h | ⟨a, o, h1, h2, h3⟩
  · exact h
  · exact h3.elim
theorem View.tup {G H : Hp} {ds : List D} {v : V} (h : View G H (.seq false ds) v) : Rep G (.seq false ds) v := by
  rcases h with h | ⟨a, o, h1, h2, h3⟩
  · exact h
  · exact h3.elim
theorem View.rep {G H : Hp} {d : D} {v : V} (e : Ex G H) (h : View G H d v) : Rep H d v := by
  rcases h with h | ⟨a, o, rfl, h2, h3⟩
  · exact h.mono e
  · exact h3.rep e h2
theorem View.lf {G H : Hp} {x v : V} (h : View G H (.leaf x) v) : v = x ∧ leafy x = true := by
  rcases h with h | ⟨a, o, h1, h2, h3⟩
  · exact h.un_lf
  · exact h3.elim
section
variable {X : Cx} {e : Expr} {t : TE} {φ : Env → Option D} {ψ : Env → Option (List D)}
theorem PuD.vi (h : PuD X e t φ) : ViD X e t φ := ⟨h.pe, fun ρ d e G H σ x Q k => h.ev ρ d e G H σ x Q fun v G2 H2 f r => k v G2 H2 f (.inl r)⟩
theorem OwD.pu (h : OwD X e t ψ) : PuD X e t (fun ρ => (ψ ρ).map (D.seq true)) := ⟨h.pe, fun ρ d e G H σ x Q k => by
  obtain ⟨ds, e1, rfl⟩ := Option.map_eq_some_iff.mp e
  refine h.ev ρ ds e1 G H σ x Q fun p us G2 H2 f n1 n2 h2 hl r => ?_
  have g2 : Ex (upd G2 p (.lst us)) H2 := fun a o z => by
    by_cases q : a = p
    · rw [q, upd_same] at z; rw [q]; cases z; exact h2
    · rw [upd_ne q] at z; exact f.gh _ _ z
  refine k (.ref p) (upd G2 p (.lst us)) H2 ⟨f.g.trans (Ex.new n2), g2, f.h, fun a h1 h2 => ?_⟩ (.sq upd_same hl (r.mono (Ex.new n2)))
  have : a ≠ p := fun z => h1 (z ▸ n1)
  rw [upd_ne this]
  exact f.nw a h1 h2⟩
theorem OwD.vi (h : OwD X e t ψ) : ViD X e t (fun ρ => (ψ ρ).map (D.seq true)) := h.pu.vi
end
end L2.Tr

/-! Trees: rules for expressions. -/
namespace L2.Tr
open PySem PySem.Spec PyProof.Rows
theorem lim_line {n : Nat} (h : n ≤ 2 * Lim) : n ≤ sizeLine := by rw [sizeLine_eq]; have : Lim = 5000 := rfl; omega
/-! ### names, constants -/
def atP (i : Nat) : Env → Option D := fun ρ => match ρ[i]? with
  | some (Sl.pu d) => some d
  | _ => none
def atV (i : Nat) : Env → Option D := fun ρ => match ρ[i]? with
  | some (Sl.pu d) => some d
  | some (.ow d) => some d
  | _ => none
def kD (d : D) : Env → Option D := fun _ => some d
section
variable {X : Cx} {e a b : Expr} {t ta tb : TE} {φ φa φb : Env → Option D}
theorem pu_var {i : Nat} {x : Str} {pos : Pos} (h : PE X (.Name x pos) (tVar i)) : PuD X (.Name x pos) (tVar i) (atP i) := ⟨h, fun ρ d e G H σ x Q k => by
  unfold atP at e
  split at e
  · rename_i d' h1
    cases e
    obtain ⟨v, h2, h3⟩ := x.pu i _ h1
    exact ⟨v, h2, k v G H (.refl x.gh) h3⟩
  · cases e⟩
theorem vi_var {i : Nat} {x : Str} {pos : Pos} (h : PE X (.Name x pos) (tVar i)) : ViD X (.Name x pos) (tVar i) (atV i) := ⟨h, fun ρ d e G H σ x Q k => by
  unfold atV at e
  split at e
  · rename_i d' h1
    cases e
    obtain ⟨v, h2, h3⟩ := x.pu i _ h1
    exact ⟨v, h2, k v G H (.refl x.gh) (.inl h3)⟩
  · rename_i ds h1
    cases e
    obtain ⟨p, o, h2, h3, h4, h5⟩ := x.ow i _ h1
    exact ⟨_, h2, k _ G H (.refl x.gh) (.inr ⟨p, o, rfl, h4, h5⟩)⟩
  · cases e⟩
theorem pu_c {v : V} (h : PE X e (tC v)) (lf : leafy v = true) : PuD X e (tC v) (kD (.leaf v)) := ⟨h, fun ρ d e G H σ x Q k => by
  cases e
  exact k v G H (.refl x.gh) (.lf lf)⟩
/-! ### operators -/
def R2D (r : R2) (op : D → D → Option D) : Prop := ∀ d1 d2 z, op d1 d2 = some z → ∀ (G H : Hp) (v1 v2 : V), Ex G H → View G H d1 v1 → View G H d2 v2 → ∀ Q : VK, (∀ v G2 H2, Fr G H G2 H2 → Rep G2 z v → Q v H2) → r v1 v2 H Q
def R2O (r : R2) (op : D → D → Option (List D)) : Prop := ∀ d1 d2 z, op d1 d2 = some z → ∀ (G H : Hp) (v1 v2 : V), Ex G H → View G H d1 v1 → View G H d2 v2 → ∀ Q : VK,
  (∀ p us G2 H2, Fr G H G2 H2 → H p = none → G2 p = none → H2 p = some (.lst us) → z.length ≤ Lim → Reps G2 z us → Q (.ref p) H2) → r v1 v2 H Q
def bin2 {β : Type} (op : D → D → Option β) (φa φb : Env → Option D) : Env → Option β := fun ρ => (φa ρ).bind fun x => (φb ρ).bind fun y => op x y
theorem bin2_un {β : Type} {op : D → D → Option β} {ρ : Env} {z : β} (h : bin2 op φa φb ρ = some z) : ∃ x y, φa ρ = some x ∧ φb ρ = some y ∧ op x y = some z := by
  unfold bin2 at h
  obtain ⟨x, h1, h2⟩ := Option.bind_eq_some_iff.mp h
  obtain ⟨y, h3, h4⟩ := Option.bind_eq_some_iff.mp h2
  exact ⟨x, y, h1, h3, h4⟩
theorem op_ev {r : R2} {op : D → D → Option D} (hd : R2D r op) (ha : ViS ta φa) (hb : ViS tb φb) : PuS (tOp r ta tb) (bin2 op φa φb) := fun ρ d e G H σ x Q k => by
  obtain ⟨d1, d2, e1, e2, e3⟩ := bin2_un e
  refine ha ρ d1 e1 G H σ x _ fun v1 G1 H1 f1 r1 => ?_
  refine hb ρ d2 e2 G1 H1 σ (x.mono f1) _ fun v2 G2 H2 f2 r2 => ?_
  exact hd d1 d2 d e3 G2 H2 v1 v2 f2.gh (r1.mono f2) r2 Q fun v G3 H3 f3 r3 => k v G3 H3 (f1.trans (f2.trans f3)) r3
theorem op_evO {r : R2} {op : D → D → Option (List D)} (hd : R2O r op) (ha : ViS ta φa) (hb : ViS tb φb) : OwS (tOp r ta tb) (bin2 op φa φb) := fun ρ d e G H σ x Q k => by
  obtain ⟨d1, d2, e1, e2, e3⟩ := bin2_un e
  refine ha ρ d1 e1 G H σ x _ fun v1 G1 H1 f1 r1 => ?_
  refine hb ρ d2 e2 G1 H1 σ (x.mono f1) _ fun v2 G2 H2 f2 r2 => ?_
  exact hd d1 d2 d e3 G2 H2 v1 v2 f2.gh (r1.mono f2) r2 Q fun p us G3 H3 f3 n1 n2 h l r3 => k p us G3 H3 (f1.trans (f2.trans f3)) ((f1.trans f2).ne n1) n2 h l r3
theorem R2D.or {r r' : R2} {op op' : D → D → Option D} (h : R2D r op) (h' : R2D r' op') : R2D (fun x y H Q => r x y H Q ∨ r' x y H Q) (fun x y => (op x y).or (op' x y)) := fun d1 d2 z e G H v1 v2 x r1 r2 Q k => by
  cases e1 : op d1 d2 with
  | some w =>
    have : w = z := by simpa [e1] using e
    subst this
    exact .inl (h d1 d2 w e1 G H v1 v2 x r1 r2 Q k)
  | none =>
    have e' : op' d1 d2 = some z := by simpa [e1] using e
    exact .inr (h' d1 d2 z e' G H v1 v2 x r1 r2 Q k)
theorem pu_op {op : Operator} {r : R2} {o : D → D → Option D} {pos : Pos} (ho : OpR X (binaryOp op) r) (hd : R2D r o) (ha : ViD X a ta φa) (hb : ViD X b tb φb) : PuD X (.BinOp a op b pos) (tOp r ta tb) (bin2 o φa φb) := ⟨pe_op ho ha.pe hb.pe, op_ev hd ha.ev hb.ev⟩
theorem ow_op {op : Operator} {r : R2} {o : D → D → Option (List D)} {pos : Pos} (ho : OpR X (binaryOp op) r) (hd : R2O r o) (ha : ViD X a ta φa) (hb : ViD X b tb φb) : OwD X (.BinOp a op b pos) (tOp r ta tb) (bin2 o φa φb) := ⟨pe_op ho ha.pe hb.pe, op_evO hd ha.ev hb.ev⟩
theorem pu_cmp {op : CmpOp} {r : R2} {o : D → D → Option D} {pos : Pos} (ho : OpR X (compareOp op) r) (hd : R2D r o) (hm : behindInMarks op b = false) (ha : ViD X a ta φa) (hb : ViD X b tb φb) : PuD X (.Compare a [op] [b] pos) (tOp r ta tb) (bin2 o φa φb) := ⟨pe_cmpR ho ha.pe hb.pe hm, op_ev hd ha.ev hb.ev⟩
/-! ### the operators by trees -/
def intI (g : Int → Int → V) : D → D → Option D
  | .leaf (.int i), .leaf (.int j) => some (.leaf (g i j))
  | _, _ => none
theorem r2_I0 {g : Int → Int → V} (lf : ∀ i j, leafy (g i j) = true) : R2D (rI0 g) (intI g) := fun d1 d2 z e G H v1 v2 x r1 r2 Q k => by
  unfold intI at e
  split at e
  · cases e
    obtain ⟨rfl, _⟩ := r1.lf
    obtain ⟨rfl, _⟩ := r2.lf
    exact ⟨_, _, rfl, rfl, k _ G H (.refl x) (.lf (lf _ _))⟩
  · cases e
def strCat : D → D → Option D
  | .leaf (.str i), .leaf (.str j) => if i.length + j.length ≤ 1000 then some (.leaf (.str (i ++ j))) else none
  | _, _ => none
theorem r2_str : R2D (fun x y H Q => ∃ i j, x = .str i ∧ y = .str j ∧ i.length + j.length ≤ sizeLine ∧ Q (.str (i ++ j)) H) strCat := fun d1 d2 z e G H v1 v2 x r1 r2 Q k => by
  unfold strCat at e
  split at e
  · rename_i i j
    split at e
    · rename_i hl
      cases e
      obtain ⟨rfl, _⟩ := r1.lf
      obtain ⟨rfl, _⟩ := r2.lf
      refine ⟨_, _, rfl, rfl, by rw [sizeLine_eq]; omega, k _ G H (.refl x) (.lf ?_)⟩
      show decide ((i ++ j).length ≤ 1000) = true
      rw [PySem.Str.length_append]
      exact decide_eq_true hl
    · cases e
  · cases e
def lstCatO : D → D → Option (List D)
  | .seq true xs, .seq true ys => if xs.length + ys.length ≤ Lim then some (xs ++ ys) else none
  | _, _ => none
def lstCat (a b : D) : Option D := (lstCatO a b).map (D.seq true)
theorem r2_catO : R2O rCat lstCatO := fun d1 d2 z e G H v1 v2 x r1 r2 Q k => by
  unfold lstCatO at e
  split at e
  · rename_i xs ys
    split at e
    · rename_i hl
      cases e
      obtain ⟨a1, us, rfl, h1, l1, q1⟩ := r1.seq x
      obtain ⟨a2, ws, rfl, h2, l2, q2⟩ := r2.seq x
      have hl2 : (us ++ ws).length ≤ Lim := by rw [List.length_append, q1.len, q2.len]; exact hl
      refine ⟨a1, a2, us, ws, rfl, rfl, h1, h2, ?_, fun p np => k p _ G _ (.tmp x np) np (x.back np) upd_same (by rw [List.length_append]; exact hl) (q1.app q2)⟩
      rw [q1.len, q2.len]
      exact lim_line (by omega)
    · cases e
  · cases e
/-- what is a new list may be kept -/
theorem R2O.d {r : R2} {op : D → D → Option (List D)} (h : R2O r op) : R2D r (fun x y => (op x y).map (D.seq true)) := fun d1 d2 z e G H v1 v2 x r1 r2 Q k => by
  obtain ⟨ds, e1, rfl⟩ := Option.map_eq_some_iff.mp e
  refine h d1 d2 ds e1 G H v1 v2 x r1 r2 Q fun p us G2 H2 f n1 n2 h2 hl r => ?_
  have g2 : Ex (upd G2 p (.lst us)) H2 := fun a o z => by
    by_cases q : a = p
    · rw [q, upd_same] at z; rw [q]; cases z; exact h2
    · rw [upd_ne q] at z; exact f.gh _ _ z
  refine k (.ref p) (upd G2 p (.lst us)) H2 ⟨f.g.trans (Ex.new n2), g2, f.h, fun a h1 h2 => ?_⟩ (.sq upd_same hl (r.mono (Ex.new n2)))
  have : a ≠ p := fun z => h1 (z ▸ n1)
  rw [upd_ne this]
  exact f.nw a h1 h2
def tupCat : D → D → Option D
  | .seq false xs, .seq false ys => if xs.length + ys.length ≤ Lim then some (.seq false (xs ++ ys)) else none
  | _, _ => none
theorem r2_catT {K : PySem.W.Frag} : R2D (rCatA K) tupCat := fun d1 d2 z e G H v1 v2 x r1 r2 Q k => by
  unfold tupCat at e
  split at e
  · rename_i xs ys
    split at e
    · rename_i hl
      cases e
      have p1 := r1.tup
      have p2 := r2.tup
      obtain ⟨a1, us, rfl, h1, l1, q1⟩ := p1.un_sq
      obtain ⟨a2, ws, rfl, h2, l2, q2⟩ := p2.un_sq
      have e1 := q1.len
      have e2 := q2.len
      refine ⟨a1, a2, us, ws, rfl, rfl, SqT.of (x _ _ h1), SqT.of (x _ _ h2), lim_line (by omega), fun z => ?_, fun z1 z2 => ?_, fun z1 z2 p np => ?_⟩
      · subst z
        have : xs = [] := List.length_eq_zero_iff.mp e1.symm
        subst this
        exact k _ G H (.refl x) p2
      · subst z2
        have : ys = [] := List.length_eq_zero_iff.mp e2.symm
        subst this
        rw [List.append_nil] at k
        exact k _ G H (.refl x) p1
      · refine k _ _ _ (.new x np) (.sq (b := false) upd_same (by rw [List.length_append]; exact hl) ((q1.app q2).mono (Ex.new (x.back np))))
    · cases e
  · cases e
/-- + -/
def addD (x y : D) : Option D := (intI (fun i j => .int (i + j)) x y).or ((strCat x y).or (((lstCatO x y).map (D.seq true)).or (tupCat x y)))
def addR (K : PySem.W.Frag) : R2 := fun x y H Q => rI0 (fun i j => .int (i + j)) x y H Q ∨ ((∃ i j, x = .str i ∧ y = .str j ∧ i.length + j.length ≤ sizeLine ∧ Q (.str (i ++ j)) H) ∨ (rCat x y H Q ∨ rCatA K x y H Q))
theorem pu_add {pos : Pos} (ha : ViD X a ta φa) (hb : ViD X b tb φb) : PuD X (.BinOp a .Add b pos) (tOp (addR X.K) ta tb) (bin2 addD φa φb) :=
  pu_op (OpR.or op_add (OpR.or op_add_str (OpR.or op_cat op_catA))) (R2D.or (r2_I0 fun _ _ => rfl) (R2D.or r2_str (R2D.or r2_catO.d r2_catT))) ha hb
theorem ow_add {pos : Pos} (ha : ViD X a ta φa) (hb : ViD X b tb φb) : OwD X (.BinOp a .Add b pos) (tOp rCat ta tb) (bin2 lstCatO φa φb) := ow_op op_cat r2_catO ha hb
theorem pu_sub {pos : Pos} (ha : ViD X a ta φa) (hb : ViD X b tb φb) : PuD X (.BinOp a .Sub b pos) (tOp (rI0 fun i j => .int (i - j)) ta tb) (bin2 (intI fun i j => .int (i - j)) φa φb) := pu_op op_sub (r2_I0 fun _ _ => rfl) ha hb
/-- [..] * n -/
def repO : D → D → Option (List D)
  | .seq true xs, .leaf (.int n) => if 0 ≤ n ∧ n ≤ 100 ∧ xs.length ≤ 10 then some (List.replicate n.toNat xs).flatten else none
  | _, _ => none
theorem reps_flat {H : Hp} {xs : List D} {us : List V} (h : Reps H xs us) : ∀ n : Nat, Reps H (List.replicate n xs).flatten (List.replicate n us).flatten
  | 0 => .nil
  | n + 1 => by
    rw [List.replicate_succ, List.replicate_succ, List.flatten_cons, List.flatten_cons]
    exact h.app (reps_flat h n)
theorem flat_len {α : Type} (xs : List α) : ∀ n : Nat, (List.replicate n xs).flatten.length = n * xs.length
  | 0 => by simp
  | n + 1 => by rw [List.replicate_succ, List.flatten_cons, List.length_append, flat_len xs n, Nat.succ_mul]; omega
theorem r2_rep : R2O rRep repO := fun d1 d2 z e G H v1 v2 x r1 r2 Q k => by
  unfold repO at e
  split at e
  · rename_i xs n
    split at e
    · rename_i hl
      cases e
      obtain ⟨a1, us, rfl, h1, l1, q1⟩ := r1.seq x
      obtain ⟨rfl, _⟩ := r2.lf
      obtain ⟨h2, h3, h4⟩ := hl
      have e1 := q1.len
      have b : n.toNat * xs.length ≤ 100 * 10 := Nat.mul_le_mul (by omega) h4
      refine ⟨a1, n, us, rfl, rfl, h1, by omega, by omega, ?_, fun p np => k p _ G _ (.tmp x np) np (x.back np) upd_same ?_ (reps_flat q1 _)⟩
      · rw [e1, Nat.mul_comm]; exact lim_line (by have : Lim = 5000 := rfl; omega)
      · rw [flat_len]; have : Lim = 5000 := rfl; omega
    · cases e
  · cases e
theorem ow_rep {pos : Pos} (ha : ViD X a ta φa) (hb : ViD X b tb φb) : OwD X (.BinOp a .Mult b pos) (tOp rRep ta tb) (bin2 repO φa φb) := ow_op op_rep r2_rep ha hb
/-! ### comparisons -/
def bD (b : Bool) : D := .leaf (.bl b)
def scD (neg : Bool) : D → D → Option D
  | .leaf x, .leaf y => if scal x y = true then some (bD (xor neg (decide (x = y)))) else none
  | _, _ => none
theorem r2_eqS : R2D rEq (scD false) := fun d1 d2 z e G H v1 v2 x r1 r2 Q k => by
  unfold scD at e
  split at e
  · split at e
    · rename_i hs
      cases e
      obtain ⟨rfl, _⟩ := r1.lf
      obtain ⟨rfl, _⟩ := r2.lf
      exact ⟨hs, k _ G H (.refl x) (by rw [Bool.false_xor]; exact .lf rfl)⟩
    · cases e
  · cases e
theorem r2_neS : R2D rNe (scD true) := fun d1 d2 z e G H v1 v2 x r1 r2 Q k => by
  unfold scD at e
  split at e
  · split at e
    · rename_i hs
      cases e
      obtain ⟨rfl, _⟩ := r1.lf
      obtain ⟨rfl, _⟩ := r2.lf
      exact ⟨hs, k _ G H (.refl x) (by rw [Bool.true_xor]; exact .lf rfl)⟩
    · cases e
  · cases e
/-- is None -/
def isN (neg : Bool) : D → D → Option D
  | .leaf x, .leaf .non => some (bD (xor neg (decide (x = .non))))
  | .seq _ _, .leaf .non => some (bD neg)
  | .dct _ _, .leaf .non => some (bD neg)
  | .obj _ _ _, .leaf .non => some (bD neg)
  | _, _ => none
theorem isn_ref {G H : Hp} {d : D} {v : V} (h : View G H d v) (n : ∀ x, d ≠ .leaf x) : ∃ a, v = .ref a := by
  rcases h with h | ⟨a, o, h, _⟩
  · cases d with
    | leaf x => exact absurd rfl (n x)
    | seq b ds => obtain ⟨a, _, h, _⟩ := h.un_sq; exact ⟨a, h⟩
    | dct ks ds => obtain ⟨a, _, h, _⟩ := h.un_dct; exact ⟨a, h⟩
    | obj C ns ds => obtain ⟨a, _, _, h, _⟩ := h.un_obj; exact ⟨a, h⟩
    | frz ks ds => obtain ⟨a, _, _, h, _⟩ := h.un_frz; exact ⟨a, h⟩
  · exact ⟨a, h⟩
theorem isn_any {neg : Bool} {d1 d2 z : D} (e : isN neg d1 d2 = some z) {G H : Hp} {v1 v2 : V} (r1 : View G H d1 v1) (r2 : View G H d2 v2) : v2 = .non ∧ z = bD (xor neg (decide (v1 = .non))) := by
  unfold isN at e
  split at e
  · cases e
    obtain ⟨rfl, _⟩ := r1.lf
    exact ⟨r2.lf.1, rfl⟩
  all_goals first
    | (cases e
       obtain ⟨a, rfl⟩ := isn_ref r1 (fun x z => by cases z)
       refine ⟨r2.lf.1, ?_⟩
       rw [decide_eq_false (fun z => by cases z), Bool.xor_false])
    | cases e
theorem r2_isN : R2D (fun x y H Q => y = .non ∧ Q (.bl (decide (x = .non))) H) (isN false) := fun d1 d2 z e G H v1 v2 x r1 r2 Q k => by
  obtain ⟨h1, rfl⟩ := isn_any e r1 r2
  exact ⟨h1, k _ G H (.refl x) (by rw [Bool.false_xor]; exact .lf rfl)⟩
theorem r2_notN : R2D (fun x y H Q => y = .non ∧ Q (.bl (!decide (x = .non))) H) (isN true) := fun d1 d2 z e G H v1 v2 x r1 r2 Q k => by
  obtain ⟨h1, rfl⟩ := isn_any e r1 r2
  exact ⟨h1, k _ G H (.refl x) (by rw [Bool.true_xor]; exact .lf rfl)⟩
/-- in a list, a tuple of leaves -/
def noR : V → Bool
  | .ref _ => false
  | _ => true
def leaves : List D → Option (List V)
  | [] => some []
  | .leaf x :: r => if noR x = true then (leaves r).map (x :: ·) else none
  | _ :: _ => none
theorem leaves_map : ∀ (vs : List V), vs.all noR = true → leaves (vs.map D.leaf) = some vs
  | [], _ => rfl
  | v :: r, h => by
    rw [List.all_cons, Bool.and_eq_true] at h
    rw [List.map_cons, leaves, if_pos h.1, leaves_map r h.2]; rfl
theorem leaves_un : ∀ {ds : List D} {vs : List V}, leaves ds = some vs → ds = vs.map D.leaf
  | [], vs, h => by cases h; rfl
  | .leaf x :: r, vs, h => by
    rw [leaves] at h
    split at h
    · obtain ⟨ws, h1, rfl⟩ := Option.map_eq_some_iff.mp h
      rw [leaves_un h1]; rfl
    · cases h
  | .seq _ _ :: _, vs, h => by simp [leaves] at h
  | .dct _ _ :: _, vs, h => by simp [leaves] at h
  | .obj _ _ _ :: _, vs, h => by simp [leaves] at h
  | .frz _ _ :: _, vs, h => by simp [leaves] at h
theorem leaves_no : ∀ {ds : List D} {vs : List V}, leaves ds = some vs → ∀ v ∈ vs, noR v = true
  | [], vs, h => by cases h; exact fun _ z => by cases z
  | .leaf x :: r, vs, h => by
    rw [leaves] at h
    split at h
    · rename_i hx
      obtain ⟨ws, h1, rfl⟩ := Option.map_eq_some_iff.mp h
      exact fun v hv => (List.mem_cons.mp hv).elim (fun z => z ▸ hx) (leaves_no h1 v)
    · cases h
  | .seq _ _ :: _, vs, h => by simp [leaves] at h
  | .dct _ _ :: _, vs, h => by simp [leaves] at h
  | .obj _ _ _ :: _, vs, h => by simp [leaves] at h
  | .frz _ _ :: _, vs, h => by simp [leaves] at h
theorem leafy_flat : ∀ {v : V}, noR v = true → leafy v = true → flatV v = true
  | .non, _, _ => rfl
  | .bl _, _, _ => rfl
  | .int _, _, _ => rfl
  | .str _, _, _ => rfl
theorem reps_leafy {H : Hp} : ∀ {vs us : List V}, Reps H (vs.map D.leaf) us → us = vs ∧ ∀ v ∈ vs, leafy v = true
  | [], us, h => ⟨h.un0, fun _ z => by cases z⟩
  | v :: r, us, h => by
    obtain ⟨u, s, rfl, q, t⟩ := h.un
    obtain ⟨e, k⟩ := reps_leafy t
    rw [e, q.un_lf.1]
    exact ⟨rfl, fun w hw => (List.mem_cons.mp hw).elim (fun z => z ▸ q.un_lf.2) (k w)⟩
def inD (neg : Bool) : D → D → Option D
  | .leaf x, .seq _ ds => if noR x = true then (leaves ds).map fun vs => bD (xor neg (inV x vs)) else none
  | _, _ => none
theorem r2_in {K : PySem.W.Frag} {neg : Bool} : R2D (rIn K neg) (inD neg) := fun d1 d2 z e G H v1 v2 x r1 r2 Q k => by
  unfold inD at e
  split at e
  · rename_i w b ds
    split at e
    rotate_left
    · cases e
    rename_i hx
    obtain ⟨vs, h1, rfl⟩ := Option.map_eq_some_iff.mp e
    have hno := leaves_no h1
    obtain rfl := leaves_un h1
    obtain ⟨rfl, lf⟩ := r1.lf
    obtain ⟨a2, ws, rfl, h2, l2, q2⟩ := r2.seq x
    obtain ⟨rfl, lfs⟩ := reps_leafy q2
    refine ⟨a2, ws, rfl, ?_, leafy_flat hx lf, List.all_eq_true.mpr fun v hv => leafy_flat (hno v hv) (lfs v hv), k _ G H (.refl x) ?_⟩
    · cases b with
      | true => exact .inl (SqL.of h2)
      | false => exact .inr (SqT.of h2)
    · cases neg with
      | true => rw [Bool.true_xor]; exact .lf rfl
      | false => rw [Bool.false_xor]; exact .lf rfl
  · cases e
def inSD : D → D → Option D
  | .leaf (.str u), .leaf (.str z) => if u.cps.size = 1 then some (bD (decide (u.cps.getD 0 0 ∈ z.cps.toList))) else none
  | _, _ => none
theorem r2_inS : R2D rInS inSD := fun d1 d2 z e G H v1 v2 x r1 r2 Q k => by
  unfold inSD at e
  split at e
  · split at e
    · rename_i u z' hs
      cases e
      obtain ⟨rfl, _⟩ := r1.lf
      obtain ⟨rfl, _⟩ := r2.lf
      refine ⟨u.cps.getD 0 0, z', ?_, rfl, k _ G H (.refl x) (.lf rfl)⟩
      obtain ⟨l⟩ := u
      obtain ⟨l⟩ := l
      match l, hs with
      | [c], _ => rfl
    · cases e
  · cases e
/-! ### subscripts -/
def ixD : D → D → Option D
  | .seq _ ds, .leaf (.int i) => atI ds i
  | _, _ => none
theorem atI_rep {H : Hp} {ds : List D} {us : List V} {i : Int} {d : D} (h : Reps H ds us) (e : atI ds i = some d) : ∃ u, atI us i = some u ∧ Rep H d u := by
  unfold atI at e ⊢
  rw [h.len]
  obtain ⟨j, h1, h2⟩ := Option.bind_eq_some_iff.mp e
  obtain ⟨u, h3, h4⟩ := h.get h2
  exact ⟨u, by rw [h1]; exact h3, h4⟩
theorem r2_ix {K : PySem.W.Frag} : R2D (rIx K) ixD := fun d1 d2 z e G H v1 v2 x r1 r2 Q k => by
  unfold ixD at e
  split at e
  · rename_i b ds i
    obtain ⟨a1, us, rfl, h1, l1, q1⟩ := r1.seq x
    obtain ⟨rfl, _⟩ := r2.lf
    obtain ⟨u, h2, h3⟩ := atI_rep q1 e
    have kk := k u G H (.refl x) h3
    cases b with
    | true => exact .inl ⟨a1, us, i, u, rfl, rfl, SqL.of h1, h2, kk⟩
    | false => exact .inr (.inl ⟨a1, us, i, u, rfl, rfl, SqT.of h1, h2, kk⟩)
  · cases e
theorem pu_ix {pos : Pos} (ha : ViD X a ta φa) (hb : ViD X b tb φb) (hs : PlainIx b) : PuD X (.Subscript a b pos) (tOp (rIx X.K) ta tb) (bin2 ixD φa φb) := ⟨pe_ix ix_seq ha.pe hb.pe hs, op_ev r2_ix ha.ev hb.ev⟩
/-- d[k] -/
def getK : List Key → List D → Key → Option D
  | k :: ks, d :: ds, x => if k = x then some d else getK ks ds x
  | _, _, _ => none
theorem getK_rep {H : Hp} {x : Key} {d : D} : ∀ {ks : List Key} {ds : List D} {us : List V}, Reps H ds us → getK ks ds x = some d → ∃ u, valV (ks.zip us) x = some u ∧ Rep H d u
  | [], ds, us, h, e => by simp [getK] at e
  | k :: ks, [], us, h, e => by simp [getK] at e
  | k :: ks, d0 :: ds, us, h, e => by
    obtain ⟨u, r, rfl, q, t⟩ := h.un
    rw [getK] at e
    rw [List.zip_cons_cons]
    split at e
    · rename_i hk
      cases e
      exact ⟨u, valV_pos hk, q⟩
    · rename_i hk
      rw [valV_neg hk]
      exact getK_rep t e
def keyD : D → Option Key
  | .leaf (.int i) => some (.inl i)
  | .leaf (.str x) => some (.inr x)
  | _ => none
def dgD : D → D → Option D
  | .dct ks ds, y => (keyD y).bind (getK ks ds)
  | .frz ks ds, y => (keyD y).bind (getK ks ds)
  | _, _ => none
theorem keyD_kV {d : D} {k : Key} {G H : Hp} {v : V} (h : keyD d = some k) (r : View G H d v) : v = kV k := by
  cases d with
  | leaf x =>
    obtain ⟨rfl, _⟩ := r.lf
    cases v with
    | int i => cases h; rfl
    | str i => cases h; rfl
    | _ => cases h
  | _ => cases h
theorem pu_dg {pos : Pos} (hu : X.A.units + 1 < cLine) (ha : ViD X a ta φa) (hb : ViD X b tb φb) (hs : NoSl b) : PuD X (.Subscript a b pos) (tDGet ta tb) (bin2 dgD φa φb) := ⟨pe_dget hu ha.pe hb.pe hs, fun ρ d e G H σ x Q k => by
  obtain ⟨d1, d2, e1, e2, e3⟩ := bin2_un e
  refine ha.ev ρ d1 e1 G H σ x _ fun v1 G1 H1 f1 r1 => ?_
  refine hb.ev ρ d2 e2 G1 H1 σ (x.mono f1) _ fun v2 G2 H2 f2 r2 => ?_
  unfold dgD at e3
  split at e3
  · rename_i ks ds y
    obtain ⟨kk, h1, h2⟩ := Option.bind_eq_some_iff.mp e3
    obtain ⟨p, us, rfl, hp, _, _, rs⟩ := (r1.mono f2).dct f2.gh
    obtain rfl := keyD_kV h1 r2
    obtain ⟨u, h3, h4⟩ := getK_rep rs h2
    refine ⟨p, u, rfl, ?_, k u G2 H2 (f1.trans f2) h4⟩
    rw [← h3]
    exact DGet.k hp
  · rename_i ks ds y
    obtain ⟨kk, h1, h2⟩ := Option.bind_eq_some_iff.mp e3
    obtain ⟨p, us, o, rfl, hp, _, _, rs⟩ := ((r1.mono f2).frz).un_frz
    obtain rfl := keyD_kV h1 r2
    obtain ⟨u, h3, h4⟩ := getK_rep rs h2
    refine ⟨p, u, rfl, ?_, k u G2 H2 (f1.trans f2) h4⟩
    rw [← h3]
    exact .inl ⟨_, _, .inr ⟨o, f2.gh _ _ hp⟩, rfl, rfl⟩
  · cases e3⟩
end
end L2.Tr

/-! Trees: calls, tests, slices, displays. -/
namespace L2.Tr
open PySem PySem.Spec PyProof.Rows
section
variable {X : Cx} {e a b c : Expr} {es : List Expr} {t ta tb tc : TE} {φ φa φb φc : Env → Option D} {ψ ψa ψb : Env → Option (List D)}
/-! ### arguments -/
def Views (G H : Hp) : List D → List V → Prop
  | [], us => us = []
  | d :: ds, us => ∃ u r, us = u :: r ∧ View G H d u ∧ Views G H ds r
theorem Views.mono {G H G2 H2 : Hp} (f : Fr G H G2 H2) : ∀ {ds : List D} {us : List V}, Views G H ds us → Views G2 H2 ds us
  | [], _, h => h
  | d :: ds, us, ⟨u, r, h1, h2, h3⟩ => ⟨u, r, h1, h2.mono f, h3.mono f⟩
def AvS (t : TA) (φ : Env → Option (List D)) : Prop := ∀ ρ ds, φ ρ = some ds → ∀ (G H : Hp) (σ : St), EnvOk G H σ ρ → ∀ Q : List V → Hp → Prop, (∀ vs G2 H2, Fr G H G2 H2 → Views G2 H2 ds vs → Q vs H2) → t σ H Q
structure AvD (X : Cx) (es : List Expr) (t : TA) (φ : Env → Option (List D)) : Prop where
  pa : PA X es t
  ev : AvS t φ
def nilD : Env → Option (List D) := fun _ => some []
def consD (φ : Env → Option D) (ψ : Env → Option (List D)) : Env → Option (List D) := fun ρ => (φ ρ).bind fun x => (ψ ρ).map (x :: ·)
theorem consD_un {ρ : Env} {z : List D} (h : consD φ ψ ρ = some z) : ∃ x xs, φ ρ = some x ∧ ψ ρ = some xs ∧ z = x :: xs := by
  unfold consD at h
  obtain ⟨x, h1, h2⟩ := Option.bind_eq_some_iff.mp h
  obtain ⟨xs, h3, h4⟩ := Option.map_eq_some_iff.mp h2
  exact ⟨x, xs, h1, h3, h4.symm⟩
theorem av_nil : AvD X [] tNil nilD := ⟨pa_nil, fun ρ d e G H σ x Q k => by cases e; exact k [] G H (.refl x.gh) rfl⟩
theorem av_cons {tr : TA} (h : ViD X e t φ) (r : AvD X es tr ψ) (hs : starEach (e :: es) X.env = (false, eval e X.env) :: starEach es X.env := by rfl) : AvD X (e :: es) (tCons t tr) (consD φ ψ) := ⟨pa_cons h.pe r.pa hs, fun ρ d e G H σ x Q k => by
  obtain ⟨y, ys, e1, e2, rfl⟩ := consD_un e
  refine h.ev ρ y e1 G H σ x _ fun v G1 H1 f1 r1 => ?_
  exact r.ev ρ ys e2 G1 H1 σ (x.mono f1) _ fun vs G2 H2 f2 r2 => k _ G2 H2 (f1.trans f2) ⟨v, vs, rfl, r1.mono f2, r2⟩⟩
theorem ar_nil : ArD X [] tNil nilD := ⟨pa_nil, fun ρ d e G H σ x Q k => by cases e; exact k [] G H (.refl x.gh) .nil⟩
theorem ar_cons {tr : TA} (h : PuD X e t φ) (r : ArD X es tr ψ) (hs : starEach (e :: es) X.env = (false, eval e X.env) :: starEach es X.env := by rfl) : ArD X (e :: es) (tCons t tr) (consD φ ψ) := ⟨pa_cons h.pe r.pa hs, fun ρ d e G H σ x Q k => by
  obtain ⟨y, ys, e1, e2, rfl⟩ := consD_un e
  refine h.ev ρ y e1 G H σ x _ fun v G1 H1 f1 r1 => ?_
  exact r.ev ρ ys e2 G1 H1 σ (x.mono f1) _ fun vs G2 H2 f2 r2 => k _ G2 H2 (f1.trans f2) (.cons (r1.mono f2.g) r2)⟩
/-! ### calls of what is built in -/
def R1D (r : List V → Hp → VK → Prop) (op : List D → Option D) : Prop := ∀ ds z, op ds = some z → ∀ (G H : Hp) (vs : List V), Ex G H → Views G H ds vs → ∀ Q : VK, (∀ v G2 H2, Fr G H G2 H2 → Rep G2 z v → Q v H2) → r vs H Q
def R1O (r : List V → Hp → VK → Prop) (op : List D → Option (List D)) : Prop := ∀ ds z, op ds = some z → ∀ (G H : Hp) (vs : List V), Ex G H → Views G H ds vs → ∀ Q : VK,
  (∀ p us G2 H2, Fr G H G2 H2 → H p = none → G2 p = none → H2 p = some (.lst us) → z.length ≤ Lim → Reps G2 z us → Q (.ref p) H2) → r vs H Q
def app1 {β : Type} (op : List D → Option β) (ψ : Env → Option (List D)) : Env → Option β := fun ρ => (ψ ρ).bind op
theorem cb_ev {r : List V → Hp → VK → Prop} {op : List D → Option D} {tr : TA} (hd : R1D r op) (h : AvS tr ψ) : PuS (tCB r tr) (app1 op ψ) := fun ρ d e G H σ x Q k => by
  obtain ⟨ds, e1, e2⟩ := Option.bind_eq_some_iff.mp e
  exact h ρ ds e1 G H σ x _ fun vs G1 H1 f1 r1 => hd ds d e2 G1 H1 vs f1.gh r1 Q fun v G2 H2 f2 r2 => k v G2 H2 (f1.trans f2) r2
theorem cb_evO {r : List V → Hp → VK → Prop} {op : List D → Option (List D)} {tr : TA} (hd : R1O r op) (h : AvS tr ψ) : OwS (tCB r tr) (app1 op ψ) := fun ρ d e G H σ x Q k => by
  obtain ⟨ds, e1, e2⟩ := Option.bind_eq_some_iff.mp e
  exact h ρ ds e1 G H σ x _ fun vs G1 H1 f1 r1 => hd ds d e2 G1 H1 vs f1.gh r1 Q fun p us G2 H2 f2 n1 n2 h2 l r2 => k p us G2 H2 (f1.trans f2) (f1.ne n1) n2 h2 l r2
theorem R1D.or {r r' : List V → Hp → VK → Prop} {op op' : List D → Option D} (h : R1D r op) (h' : R1D r' op') : R1D (fun x H Q => r x H Q ∨ r' x H Q) (fun x => (op x).or (op' x)) := fun ds z e G H vs x r1 Q k => by
  cases e1 : op ds with
  | some w =>
    have : w = z := by simpa [e1] using e
    subst this
    exact .inl (h ds w e1 G H vs x r1 Q k)
  | none =>
    have e' : op' ds = some z := by simpa [e1] using e
    exact .inr (h' ds z e' G H vs x r1 Q k)
theorem R1O.or {r r' : List V → Hp → VK → Prop} {op op' : List D → Option (List D)} (h : R1O r op) (h' : R1O r' op') : R1O (fun x H Q => r x H Q ∨ r' x H Q) (fun x => (op x).or (op' x)) := fun ds z e G H vs x r1 Q k => by
  cases e1 : op ds with
  | some w =>
    have : w = z := by simpa [e1] using e
    subst this
    exact .inl (h ds w e1 G H vs x r1 Q k)
  | none =>
    have e' : op' ds = some z := by simpa [e1] using e
    exact .inr (h' ds z e' G H vs x r1 Q k)
section
variable {x id T : _} {p pos : Pos} {tr : TA} {r : List V → Hp → VK → Prop} {op : List D → Option D} {opO : List D → Option (List D)}
theorem pu_cb (hc : CallR X (.builtin id) r) (hd : R1D r op) (hg : Gl X x) (hm : X.mg x = none) (hv : bootBuiltins x = some (.builtin id)) (ha : AvD X (e :: es) tr ψ) (hn : x ≠ "__name__" := by decide) (hdb : (x == ("__debug__" : Str)) = false := by decide)
    (he : starEach (e :: es) X.env = (false, eval e X.env) :: starEach es X.env := by rfl) (hpl : (backTo pos (starEach es X.env)).any (·.1) = false := by rfl) : PuD X (.Call (.Name x p) (e :: es) [] pos) (tCB r tr) (app1 op ψ) := ⟨pe_callB hc hg hm hv ha.pa hn hdb he hpl, cb_ev hd ha.ev⟩
theorem pu_cty (hc : CallR X (.type T) r) (hd : R1D r op) (hg : Gl X x) (hm : X.mg x = none) (hv : bootBuiltins x = some (.type T)) (ha : AvD X (e :: es) tr ψ) (hn : x ≠ "__name__" := by decide) (hdb : (x == ("__debug__" : Str)) = false := by decide)
    (he : starEach (e :: es) X.env = (false, eval e X.env) :: starEach es X.env := by rfl) (hpl : (backTo pos (starEach es X.env)).any (·.1) = false := by rfl) : PuD X (.Call (.Name x p) (e :: es) [] pos) (tCB r tr) (app1 op ψ) := ⟨pe_callTy hc hg hm hv ha.pa hn hdb he hpl, cb_ev hd ha.ev⟩
theorem ow_cty (hc : CallR X (.type T) r) (hd : R1O r opO) (hg : Gl X x) (hm : X.mg x = none) (hv : bootBuiltins x = some (.type T)) (ha : AvD X (e :: es) tr ψ) (hn : x ≠ "__name__" := by decide) (hdb : (x == ("__debug__" : Str)) = false := by decide)
    (he : starEach (e :: es) X.env = (false, eval e X.env) :: starEach es X.env := by rfl) (hpl : (backTo pos (starEach es X.env)).any (·.1) = false := by rfl) : OwD X (.Call (.Name x p) (e :: es) [] pos) (tCB r tr) (app1 opO ψ) := ⟨pe_callTy hc hg hm hv ha.pa hn hdb he hpl, cb_evO hd ha.ev⟩
end
theorem views1 {G H : Hp} {d : D} {vs : List V} (h : Views G H [d] vs) : ∃ v, vs = [v] ∧ View G H d v := by
  obtain ⟨u, r, rfl, h1, rfl⟩ := h
  exact ⟨u, rfl, h1⟩
/-- len -/
def lenD : List D → Option D
  | [.leaf (.str x)] => some (.leaf (.int x.length))
  | [.seq _ ds] => some (.leaf (.int ds.length))
  | _ => none
theorem r1_len {K : PySem.W.Frag} : R1D (fun xs H Q => ∃ x n, xs = [x] ∧ LenV K x H n ∧ Q (.int n) H) lenD := fun ds z e G H vs x r1 Q k => by
  unfold lenD at e
  split at e
  · rename_i s
    cases e
    obtain ⟨v, rfl, r⟩ := views1 r1
    obtain ⟨rfl, lf⟩ := r.lf
    have hl : s.length ≤ 1000 := of_decide_eq_true lf
    exact ⟨_, s.length, rfl, ⟨by rw [sizeLine_eq]; omega, rfl⟩, k _ G H (.refl x) (.lf rfl)⟩
  · rename_i b ds
    cases e
    obtain ⟨v, rfl, r⟩ := views1 r1
    obtain ⟨a, us, rfl, h1, l1, q⟩ := r.seq x
    refine ⟨_, us.length, rfl, ?_, by rw [q.len]; exact k _ G H (.refl x) (.lf rfl)⟩
    cases b with
    | true => exact .inl ⟨us, SqL.of h1, rfl⟩
    | false => exact .inr ⟨us, SqT.of h1, rfl⟩
  · cases e
def lenK : List D → Option D
  | [.dct _ ds] => some (.leaf (.int ds.length))
  | _ => none
theorem r1_lenK : R1D (fun xs H Q => ∃ a kvs, xs = [V.ref a] ∧ H a = some (.dK kvs) ∧ Q (.int kvs.length) H) lenK := fun ds z e G H vs x r1 Q k => by
  unfold lenK at e
  split at e
  · rename_i ks ds
    cases e
    obtain ⟨v, rfl, r⟩ := views1 r1
    obtain ⟨a, us, rfl, h1, l0, l1, q⟩ := r.dct x
    refine ⟨a, _, rfl, h1, ?_⟩
    have : (ks.zip us).length = ds.length := by rw [List.length_zip, q.len, l0, Nat.min_self]
    rw [this]
    exact k _ G H (.refl x) (.lf rfl)
  · cases e
/-- list(..) -/
def lstO : List D → Option (List D)
  | [.seq _ ds] => some ds
  | _ => none
theorem r1_lst {K : PySem.W.Frag} : R1O (fun xs H Q => ∃ p ys, xs = [.ref p] ∧ (SqL K H p ys ∨ SqT K H p ys) ∧ ∀ l, H l = none → Q (.ref l) (upd H l (.lst ys))) lstO := fun ds z e G H vs x r1 Q k => by
  unfold lstO at e
  split at e
  · rename_i b ds
    cases e
    obtain ⟨v, rfl, r⟩ := views1 r1
    obtain ⟨a, us, rfl, h1, l1, q⟩ := r.seq x
    refine ⟨a, us, rfl, ?_, fun p np => k p us G _ (.tmp x np) np (x.back np) upd_same l1 q⟩
    cases b with
    | true => exact .inl (SqL.of h1)
    | false => exact .inr (SqT.of h1)
  · cases e
def keyV : Key → D
  | .inl i => .leaf (.int i)
  | .inr x => .leaf (.str x)
def okKey : Key → Bool
  | .inl _ => true
  | .inr x => decide (x.length ≤ 1000)
/-- list(a dict) -/
def lstK : List D → Option (List D)
  | [.dct ks _] => if ks.all okKey = true then some (ks.map keyV) else none
  | _ => none
theorem reps_keys {H : Hp} : ∀ {ks : List Key}, ks.all okKey = true → Reps H (ks.map keyV) (ks.map kV)
  | [], _ => .nil
  | k :: ks, h => by
    rw [List.all_cons, Bool.and_eq_true] at h
    refine .cons ?_ (reps_keys h.2)
    cases k with
    | inl i => exact .lf rfl
    | inr x => exact .lf h.1
theorem zip_fst {α β : Type} : ∀ {as : List α} {bs : List β}, as.length = bs.length → (as.zip bs).map (·.1) = as
  | [], _, _ => rfl
  | a :: as, [], h => by simp at h
  | a :: as, b :: bs, h => by rw [List.zip_cons_cons, List.map_cons, zip_fst (by simpa using h)]
theorem r1_lstK : R1O rListD lstK := fun ds z e G H vs x r1 Q k => by
  unfold lstK at e
  split at e
  · rename_i ks ds
    split at e
    · rename_i hk
      cases e
      obtain ⟨v, rfl, r⟩ := views1 r1
      obtain ⟨a, us, rfl, h1, l0, l1, q⟩ := r.dct x
      have e1 : ((ks.zip us).map fun kv => kV kv.1) = ks.map kV := by
        rw [show ((ks.zip us).map fun kv => kV kv.1) = ((ks.zip us).map (·.1)).map kV by rw [List.map_map]; rfl, zip_fst (by rw [q.len, l0])]
      refine ⟨a, _, rfl, h1, fun p np => ?_⟩
      rw [e1]
      exact k p _ G _ (.tmp x np) np (x.back np) upd_same (by rw [List.length_map, l0]; exact l1) (reps_keys hk)
    · cases e
  · cases e
/-- tuple(..) -/
def tupD : List D → Option D
  | [.seq _ ds] => some (.seq false ds)
  | _ => none
theorem r1_tup {K : PySem.W.Frag} : R1D (fun xs H Q => ∃ p ys, xs = [.ref p] ∧ ((SqL K H p ys ∧ ∀ l, H l = none → Q (.ref l) (upd H l (.tup ys))) ∨ (SqT K H p ys ∧ Q (.ref p) H))) tupD := fun ds z e G H vs x r1 Q k => by
  unfold tupD at e
  split at e
  · rename_i b ds
    cases e
    obtain ⟨v, rfl, r⟩ := views1 r1
    cases b with
    | true =>
      obtain ⟨a, us, rfl, h1, l1, q⟩ := r.seq x
      exact ⟨a, us, rfl, .inl ⟨SqL.of h1, fun p np => k _ _ _ (.new x np) (.sq (b := false) upd_same l1 (q.mono (Ex.new (x.back np))))⟩⟩
    | false =>
      have r2 := r.tup
      obtain ⟨a, us, rfl, h1, l1, q⟩ := r2.un_sq
      exact ⟨a, us, rfl, .inr ⟨SqT.of (x _ _ h1), k _ G H (.refl x) r2⟩⟩
  · cases e
/-- any, all -/
def boolsOf : List D → Option (List Bool)
  | [] => some []
  | .leaf (.bl b) :: r => (boolsOf r).map (b :: ·)
  | _ :: _ => none
theorem bools_un : ∀ {ds : List D} {bs : List Bool}, boolsOf ds = some bs → ds = (bs.map V.bl).map D.leaf
  | [], bs, h => by cases h; rfl
  | d :: r, bs, h => by
    unfold boolsOf at h
    split at h
    · rename_i hh; cases hh
    · rename_i b r' hh
      obtain ⟨ws, h1, rfl⟩ := Option.map_eq_some_iff.mp h
      injection hh with e1 e2
      subst e1 e2
      rw [bools_un h1]; rfl
    · cases h
theorem bools_map : ∀ (bs : List Bool), boolsOf (bs.map bD) = some bs
  | [] => rfl
  | b :: r => by rw [List.map_cons]; show boolsOf (.leaf (.bl b) :: _) = _; rw [boolsOf, bools_map r]; rfl
def anyD : List D → Option D
  | [.seq true ds] => (boolsOf ds).map fun bs => bD (bs.any id)
  | _ => none
def allD : List D → Option D
  | [.seq true ds] => (boolsOf ds).map fun bs => bD (bs.all id)
  | _ => none
theorem r1_any {K : PySem.W.Frag} : R1D (rAny K) anyD := fun ds z e G H vs x r1 Q k => by
  unfold anyD at e
  split at e
  · rename_i ds
    obtain ⟨bs, h1, rfl⟩ := Option.map_eq_some_iff.mp e
    obtain rfl := bools_un h1
    obtain ⟨v, rfl, r⟩ := views1 r1
    obtain ⟨a, us, rfl, h1, l1, q⟩ := r.seq x
    obtain ⟨rfl, _⟩ := reps_leafy q
    exact ⟨a, bs, rfl, SqL.of h1, k _ G H (.refl x) (.lf rfl)⟩
  · cases e
theorem r1_all {K : PySem.W.Frag} : R1D (rAll K) allD := fun ds z e G H vs x r1 Q k => by
  unfold allD at e
  split at e
  · rename_i ds
    obtain ⟨bs, h1, rfl⟩ := Option.map_eq_some_iff.mp e
    obtain rfl := bools_un h1
    obtain ⟨v, rfl, r⟩ := views1 r1
    obtain ⟨a, us, rfl, h1, l1, q⟩ := r.seq x
    obtain ⟨rfl, _⟩ := reps_leafy q
    exact ⟨a, bs, rfl, SqL.of h1, k _ G H (.refl x) (.lf rfl)⟩
  · cases e
/-! ### isinstance -/
/-- what isinstance(.., u) tells -/
def IsT (K : PySem.W.Frag) (u : Value) (p : D → Option Bool) : Prop := ∀ d b, p d = some b → ∀ (H : Hp) (v : V), Rep H d v → ∃ t, TyX K H v t ∧ PySem.W.kitOne K t u = some b
def tyName : D → Option String
  | .leaf .non => some "NoneType"
  | .leaf (.bl _) => some "bool"
  | .leaf (.int _) => some "int"
  | .leaf (.str _) => some "str"
  | .seq true _ => some "list"
  | .seq false _ => some "tuple"
  | .dct _ _ => some "dict"
  | _ => none
theorem ty_of {K : PySem.W.Frag} {d : D} {s : String} (h : tyName d = some s) {H : Hp} {v : V} (r : Rep H d v) : TyX K H v (.type s) := by
  unfold tyName at h
  split at h <;> cases h
  · obtain ⟨rfl, _⟩ := r.un_lf; exact .base .non
  · obtain ⟨rfl, _⟩ := r.un_lf; exact .base (.bl _)
  · obtain ⟨rfl, _⟩ := r.un_lf; exact .base (.int _)
  · obtain ⟨rfl, _⟩ := r.un_lf; exact .base (.str _)
  · obtain ⟨a, us, rfl, h1, _⟩ := r.un_sq; exact .base (.lst h1)
  · obtain ⟨a, us, rfl, h1, _⟩ := r.un_sq; exact .base (.tup h1)
  · obtain ⟨a, us, rfl, h1, _⟩ := r.un_dct; exact .base (.dK h1)
theorem isT_of {K : PySem.W.Frag} {T : String} {p : D → Option Bool} (h : ∀ d b, p d = some b → ∃ s, tyName d = some s ∧ kitB s T = some b) : IsT K (.type T) p := fun d b e H v r => by
  obtain ⟨s, h1, h2⟩ := h d b e
  exact ⟨_, ty_of h1 r, kit_ty h2⟩
def isStr : D → Option Bool
  | .leaf (.str _) => some true
  | .obj _ _ _ => none
  | .frz _ _ => none
  | .leaf (.byt _) => none
  | .leaf (.flt _) => none
  | .leaf (.ref _) => none
  | .leaf (.ty _) => none
  | _ => some false
def isInt : D → Option Bool
  | .leaf (.int _) => some true
  | .leaf (.bl _) => some true
  | .obj _ _ _ => none
  | .frz _ _ => none
  | .leaf (.byt _) => none
  | .leaf (.flt _) => none
  | .leaf (.ref _) => none
  | .leaf (.ty _) => none
  | _ => some false
def isBool : D → Option Bool
  | .leaf (.bl _) => some true
  | .obj _ _ _ => none
  | .frz _ _ => none
  | .leaf (.byt _) => none
  | .leaf (.flt _) => none
  | .leaf (.ref _) => none
  | .leaf (.ty _) => none
  | _ => some false
def isLst : D → Option Bool
  | .seq b _ => some b
  | .obj _ _ _ => none
  | .frz _ _ => none
  | .leaf (.byt _) => none
  | .leaf (.flt _) => none
  | .leaf (.ref _) => none
  | .leaf (.ty _) => none
  | _ => some false
def isTup : D → Option Bool
  | .seq b _ => some (!b)
  | .obj _ _ _ => none
  | .frz _ _ => none
  | .leaf (.byt _) => none
  | .leaf (.flt _) => none
  | .leaf (.ref _) => none
  | .leaf (.ty _) => none
  | _ => some false
def isDct : D → Option Bool
  | .dct _ _ => some true
  | .obj _ _ _ => none
  | .frz _ _ => none
  | .leaf (.byt _) => none
  | .leaf (.flt _) => none
  | .leaf (.ref _) => none
  | .leaf (.ty _) => none
  | _ => some false
theorem isT_str {K : PySem.W.Frag} : IsT K (.type "str") isStr := by
  refine isT_of fun d b e => ?_
  cases d with
  | leaf v => cases v <;> first | (cases e; done) | (cases e; exact ⟨_, rfl, by decide +kernel⟩)
  | seq b' ds => cases b' <;> (cases e; exact ⟨_, rfl, by decide +kernel⟩)
  | dct ks ds => cases e; exact ⟨_, rfl, by decide +kernel⟩
  | obj C ns ds => cases e
  | frz ks ds => cases e
theorem isT_int {K : PySem.W.Frag} : IsT K (.type "int") isInt := by
  refine isT_of fun d b e => ?_
  cases d with
  | leaf v => cases v <;> first | (cases e; done) | (cases e; exact ⟨_, rfl, by decide +kernel⟩)
  | seq b' ds => cases b' <;> (cases e; exact ⟨_, rfl, by decide +kernel⟩)
  | dct ks ds => cases e; exact ⟨_, rfl, by decide +kernel⟩
  | obj C ns ds => cases e
  | frz ks ds => cases e
theorem isT_bool {K : PySem.W.Frag} : IsT K (.type "bool") isBool := by
  refine isT_of fun d b e => ?_
  cases d with
  | leaf v => cases v <;> first | (cases e; done) | (cases e; exact ⟨_, rfl, by decide +kernel⟩)
  | seq b' ds => cases b' <;> (cases e; exact ⟨_, rfl, by decide +kernel⟩)
  | dct ks ds => cases e; exact ⟨_, rfl, by decide +kernel⟩
  | obj C ns ds => cases e
  | frz ks ds => cases e
theorem isT_lst {K : PySem.W.Frag} : IsT K (.type "list") isLst := by
  refine isT_of fun d b e => ?_
  cases d with
  | leaf v => cases v <;> first | (cases e; done) | (cases e; exact ⟨_, rfl, by decide +kernel⟩)
  | seq b' ds => cases b' <;> (cases e; exact ⟨_, rfl, by decide +kernel⟩)
  | dct ks ds => cases e; exact ⟨_, rfl, by decide +kernel⟩
  | obj C ns ds => cases e
  | frz ks ds => cases e
theorem isT_tup {K : PySem.W.Frag} : IsT K (.type "tuple") isTup := by
  refine isT_of fun d b e => ?_
  cases d with
  | leaf v => cases v <;> first | (cases e; done) | (cases e; exact ⟨_, rfl, by decide +kernel⟩)
  | seq b' ds => cases b' <;> (cases e; exact ⟨_, rfl, by decide +kernel⟩)
  | dct ks ds => cases e; exact ⟨_, rfl, by decide +kernel⟩
  | obj C ns ds => cases e
  | frz ks ds => cases e
theorem isT_dct {K : PySem.W.Frag} : IsT K (.type "dict") isDct := by
  refine isT_of fun d b e => ?_
  cases d with
  | leaf v => cases v <;> first | (cases e; done) | (cases e; exact ⟨_, rfl, by decide +kernel⟩)
  | seq b' ds => cases b' <;> (cases e; exact ⟨_, rfl, by decide +kernel⟩)
  | dct ks ds => cases e; exact ⟨_, rfl, by decide +kernel⟩
  | obj C ns ds => cases e
  | frz ks ds => cases e
theorem pu_isi {x : Str} {p pos : Pos} {T : String} {eT : Expr} {q : D → Option Bool} (hT : IsT X.K (.type T) q) (hg : Gl X x) (hm : X.mg x = none) (hv : bootBuiltins x = some (.builtin "isinstance")) (ha : ViD X e t φ) (hT2 : PE X eT (tC (.ty T))) (hn : x ≠ "__name__" := by decide) (hdb : (x == ("__debug__" : Str)) = false := by decide)
    (he1 : starEach [eT] X.env = (false, eval eT X.env) :: starEach [] X.env := by rfl) (he : starEach [e, eT] X.env = (false, eval e X.env) :: starEach [eT] X.env := by rfl) (hpl : (backTo pos (starEach [eT] X.env)).any (·.1) = false := by rfl) :
    PuD X (.Call (.Name x p) [e, eT] [] pos) (tCB (rIsi X.K) (tCons t (tCons (tC (.ty T)) tNil))) (fun ρ => ((φ ρ).bind q).map bD) := ⟨pe_callB call_isi hg hm hv (pa_cons ha.pe (pa_cons hT2 pa_nil he1) he) hn hdb he hpl, fun ρ d ee G H σ xx Q k => by
  obtain ⟨b, h1, rfl⟩ := Option.map_eq_some_iff.mp ee
  obtain ⟨d1, h2, h3⟩ := Option.bind_eq_some_iff.mp h1
  refine ha.ev ρ d1 h2 G H σ xx _ fun v G1 H1 f1 r1 => ?_
  obtain ⟨tt, h4, h5⟩ := hT d1 b h3 H1 v (r1.rep f1.gh)
  exact ⟨v, .ty T, tt, .type T, b, rfl, .ty T, h4, h5, k _ G1 H1 f1 (.lf rfl)⟩⟩
/-- isinstance(x, (T, U, ..)) -/
def IsTs (K : PySem.W.Frag) (us : List Value) (p : D → Option Bool) : Prop := ∀ d b, p d = some b → ∀ (H : Hp) (v : V), Rep H d v → ∃ t, TyX K H v t ∧ PySem.W.kitAny K t us = some b
theorem isTs_of {K : PySem.W.Frag} {Ts : List String} {p : D → Option Bool} (h : ∀ d b, p d = some b → ∃ s, tyName d = some s ∧ PySem.W.kitAny K (.type s) (Ts.map Value.type) = some b) : IsTs K (Ts.map Value.type) p := fun d b e H v r => by
  obtain ⟨s, h1, h2⟩ := h d b e
  exact ⟨_, ty_of h1 r, h2⟩
theorem kitAny2 {K : PySem.W.Frag} {a b c : String} {r q : Bool} (h : kitB a b = some r) (h2 : kitB a c = some q) : PySem.W.kitAny K (.type a) [.type b, .type c] = some (r || q) := by
  unfold PySem.W.kitAny
  rw [kit_ty h]
  cases r with
  | true => rfl
  | false =>
    show PySem.W.kitAny K (.type a) [.type c] = _
    unfold PySem.W.kitAny
    rw [kit_ty h2]
    cases q <;> rfl
theorem kitAny3 {K : PySem.W.Frag} {a b c d : String} {r q p : Bool} (h : kitB a b = some r) (h2 : kitB a c = some q) (h3 : kitB a d = some p) : PySem.W.kitAny K (.type a) [.type b, .type c, .type d] = some (r || (q || p)) := by
  unfold PySem.W.kitAny
  rw [kit_ty h]
  cases r with
  | true => rfl
  | false =>
    show PySem.W.kitAny K (.type a) [.type c, .type d] = _
    rw [kitAny2 h2 h3]
    rfl
def isSeq : D → Option Bool
  | .seq _ _ => some true
  | .obj _ _ _ => none
  | .frz _ _ => none
  | .leaf (.byt _) => none
  | .leaf (.flt _) => none
  | .leaf (.ref _) => none
  | .leaf (.ty _) => none
  | _ => some false
def isIntSeq : D → Option Bool
  | .seq _ _ => some true
  | .leaf (.int _) => some true
  | .leaf (.bl _) => some true
  | .obj _ _ _ => none
  | .frz _ _ => none
  | .leaf (.byt _) => none
  | .leaf (.flt _) => none
  | .leaf (.ref _) => none
  | .leaf (.ty _) => none
  | _ => some false
theorem isTs_seq {K : PySem.W.Frag} : IsTs K [.type "list", .type "tuple"] isSeq := by
  refine isTs_of (Ts := ["list", "tuple"]) fun d b e => ?_
  cases d with
  | leaf v => cases v <;> first | (cases e; done) | (cases e; exact ⟨_, rfl, kitAny2 (r := false) (q := false) (by decide +kernel) (by decide +kernel)⟩)
  | seq b' ds =>
    cases b' with
    | true => cases e; exact ⟨_, rfl, kitAny2 (r := true) (q := false) (by decide +kernel) (by decide +kernel)⟩
    | false => cases e; exact ⟨_, rfl, kitAny2 (r := false) (q := true) (by decide +kernel) (by decide +kernel)⟩
  | dct ks ds => cases e; exact ⟨_, rfl, kitAny2 (r := false) (q := false) (by decide +kernel) (by decide +kernel)⟩
  | obj C ns ds => cases e
  | frz ks ds => cases e
theorem isTs_intSeq {K : PySem.W.Frag} : IsTs K [.type "int", .type "list", .type "tuple"] isIntSeq := by
  refine isTs_of (Ts := ["int", "list", "tuple"]) fun d b e => ?_
  cases d with
  | leaf v => cases v <;> first | (cases e; done) | (cases e; exact ⟨_, rfl, kitAny3 (r := true) (q := false) (p := false) (by decide +kernel) (by decide +kernel) (by decide +kernel)⟩) | (cases e; exact ⟨_, rfl, kitAny3 (r := false) (q := false) (p := false) (by decide +kernel) (by decide +kernel) (by decide +kernel)⟩)
  | seq b' ds =>
    cases b' with
    | true => cases e; exact ⟨_, rfl, kitAny3 (r := false) (q := true) (p := false) (by decide +kernel) (by decide +kernel) (by decide +kernel)⟩
    | false => cases e; exact ⟨_, rfl, kitAny3 (r := false) (q := false) (p := true) (by decide +kernel) (by decide +kernel) (by decide +kernel)⟩
  | dct ks ds => cases e; exact ⟨_, rfl, kitAny3 (r := false) (q := false) (p := false) (by decide +kernel) (by decide +kernel) (by decide +kernel)⟩
  | obj C ns ds => cases e
  | frz ks ds => cases e
/-- the written types -/
inductive TyArgs (X : Cx) : List Expr → TA → List V → List Value → Prop where
  | nil : TyArgs X [] tNil [] []
  | cons {e : Expr} {es : List Expr} {tr : TA} {T : String} {vs : List V} {us : List Value} (h : PE X e (tC (.ty T))) (r : TyArgs X es tr vs us) (hs : starEach (e :: es) X.env = (false, eval e X.env) :: starEach es X.env) : TyArgs X (e :: es) (tCons (tC (.ty T)) tr) (.ty T :: vs) (.type T :: us)
theorem TyArgs.pa {es : List Expr} {tr : TA} {vs : List V} {us : List Value} (h : TyArgs X es tr vs us) : PA X es tr := by
  induction h with
  | nil => exact pa_nil
  | cons h r hs ih => exact pa_cons h ih hs
theorem TyArgs.ev {es : List Expr} {tr : TA} {vs : List V} {us : List Value} (h : TyArgs X es tr vs us) : ∀ (σ : St) (H : Hp) (Q : List V → Hp → Prop), Q vs H → tr σ H Q := by
  induction h with
  | nil => intro σ H Q q; exact q
  | cons h r hs ih => intro σ H Q q; exact ih σ H _ q
theorem TyArgs.cls {es : List Expr} {tr : TA} {vs : List V} {us : List Value} (h : TyArgs X es tr vs us) : Paired ClsV vs us := by
  induction h with
  | nil => exact .nil
  | cons h r hs ih => exact .cons (.ty _) ih
theorem pu_isiT {x : Str} {p pos pos2 : Pos} {x1 : _} {us : List Value} {vs : List V} {es' : List Expr} {tr : TA} {q : D → Option Bool} (hT : IsTs X.K us q) (hg : Gl X x) (hm : X.mg x = none) (hv : bootBuiltins x = some (.builtin "isinstance")) (ha : ViD X e t φ) (hT2 : TyArgs X es' tr vs us) (hl : vs.length ≤ 10) (hn : x ≠ "__name__" := by decide) (hdb : (x == ("__debug__" : Str)) = false := by decide)
    (he1 : starEach [.Tuple es' x1 pos2] X.env = (false, eval (.Tuple es' x1 pos2) X.env) :: starEach [] X.env := by rfl) (he : starEach [e, .Tuple es' x1 pos2] X.env = (false, eval e X.env) :: starEach [.Tuple es' x1 pos2] X.env := by rfl) (hpl : (backTo pos (starEach [.Tuple es' x1 pos2] X.env)).any (·.1) = false := by rfl) :
    PuD X (.Call (.Name x p) [e, .Tuple es' x1 pos2] [] pos) (tCB (rIsiT X.K) (tCons t (tCons (tTup tr) tNil))) (fun ρ => ((φ ρ).bind q).map bD) := ⟨pe_callB call_isiT hg hm hv (pa_cons ha.pe (pa_cons (pe_tup hT2.pa) pa_nil he1) he) hn hdb he hpl, fun ρ d ee G H σ xx Q k => by
  obtain ⟨b, h1, rfl⟩ := Option.map_eq_some_iff.mp ee
  obtain ⟨d1, h2, h3⟩ := Option.bind_eq_some_iff.mp h1
  refine ha.ev ρ d1 h2 G H σ xx _ fun v G1 H1 f1 r1 => ?_
  refine hT2.ev σ H1 _ ⟨by rw [sizeLine_eq]; omega, fun p np => ?_⟩
  obtain ⟨tt, h4, h5⟩ := hT d1 b h3 _ v ((r1.rep f1.gh).mono (Ex.new (o := .tup vs) np))
  exact ⟨v, p, vs, tt, us, b, rfl, upd_same, hT2.cls, h4, h5, k _ G1 _ (f1.trans (.tmp f1.gh np)) (.lf rfl)⟩⟩
/-! ### truth, and, or, not, if -/
def truD : D → Option Bool
  | .leaf .non => some false
  | .leaf (.bl b) => some b
  | .leaf (.int i) => some (i != 0)
  | .leaf (.str x) => some ((x.length : Int) != 0)
  | .seq _ ds => some (!ds.isEmpty)
  | .dct _ ds => some (!ds.isEmpty)
  | _ => none
theorem isEmpty_len {α β : Type} : ∀ {as : List α} {bs : List β}, as.length = bs.length → as.isEmpty = bs.isEmpty
  | [], [], _ => rfl
  | _ :: _, _ :: _, _ => rfl
  | [], _ :: _, h => by simp at h
  | _ :: _, [], h => by simp at h
theorem tru_of {K : PySem.W.Frag} {d : D} {k : Bool} (h : truD d = some k) {G H : Hp} {v : V} (x : Ex G H) (r : View G H d v) : TruV K v H k := by
  unfold truD at h
  split at h
  · cases h; obtain ⟨rfl, _⟩ := r.lf; rfl
  · cases h; obtain ⟨rfl, _⟩ := r.lf; rfl
  · cases h; obtain ⟨rfl, _⟩ := r.lf; rfl
  · cases h
    obtain ⟨rfl, lf⟩ := r.lf
    exact ⟨by rw [sizeLine_eq]; have := of_decide_eq_true lf; omega, rfl⟩
  · rename_i b ds
    cases h
    obtain ⟨a, us, rfl, h1, l1, q⟩ := r.seq x
    rw [← isEmpty_len q.len]
    cases b with
    | true => exact .inl ⟨us, SqL.of h1, rfl⟩
    | false => exact .inr (.inl ⟨us, SqT.of h1, rfl⟩)
  · rename_i ks ds
    cases h
    obtain ⟨a, us, rfl, h1, l0, l1, q⟩ := r.dct x
    refine .inr (.inr ⟨_, h1, ?_⟩)
    rw [isEmpty_len (as := ds) (bs := ks.zip us) (by rw [List.length_zip, q.len, l0, Nat.min_self])]
  · cases h
/-- the truth of a value -/
def orF (φ ψ : Env → Option D) : Env → Option D := fun ρ => (φ ρ).bind fun x => (truD x).bind fun k => if k = true then some x else ψ ρ
def andF (φ ψ : Env → Option D) : Env → Option D := fun ρ => (φ ρ).bind fun x => (truD x).bind fun k => if k = true then ψ ρ else some x
section
variable {rest : List Expr} {pos : Pos}
theorem pu_orT (ha : PuD X a ta φa) (hb : PuD X (.BoolOp .Or (b :: rest) pos) tb φb) : PuD X (.BoolOp .Or (a :: b :: rest) pos) (tOrT X.K ta tb) (orF φa φb) := ⟨pe_orT ha.pe hb.pe, fun ρ d e G H σ x Q k => by
  obtain ⟨d1, e1, e2⟩ := Option.bind_eq_some_iff.mp e
  obtain ⟨kk, e3, e4⟩ := Option.bind_eq_some_iff.mp e2
  refine ha.ev ρ d1 e1 G H σ x _ fun v G1 H1 f1 r1 => ⟨kk, tru_of e3 f1.gh (.inl r1), ?_⟩
  cases kk with
  | true => cases e4; exact k v G1 H1 f1 r1
  | false => exact hb.ev ρ d e4 G1 H1 σ (x.mono f1) Q fun v2 G2 H2 f2 r2 => k v2 G2 H2 (f1.trans f2) r2⟩
theorem pu_andT (ha : PuD X a ta φa) (hb : PuD X (.BoolOp .And (b :: rest) pos) tb φb) : PuD X (.BoolOp .And (a :: b :: rest) pos) (tAndT X.K ta tb) (andF φa φb) := ⟨pe_andT ha.pe hb.pe, fun ρ d e G H σ x Q k => by
  obtain ⟨d1, e1, e2⟩ := Option.bind_eq_some_iff.mp e
  obtain ⟨kk, e3, e4⟩ := Option.bind_eq_some_iff.mp e2
  refine ha.ev ρ d1 e1 G H σ x _ fun v G1 H1 f1 r1 => ⟨kk, tru_of e3 f1.gh (.inl r1), ?_⟩
  cases kk with
  | false => cases e4; exact k v G1 H1 f1 r1
  | true => exact hb.ev ρ d e4 G1 H1 σ (x.mono f1) Q fun v2 G2 H2 f2 r2 => k v2 G2 H2 (f1.trans f2) r2⟩
theorem pu_one {op : BoolOp} (ha : PuD X a ta φa) : PuD X (.BoolOp op [a] pos) ta φa := ⟨pe_one ha.pe, ha.ev⟩
def notF (φ : Env → Option D) : Env → Option D := fun ρ => (φ ρ).bind fun x => (truD x).map fun k => bD (!k)
theorem pu_notT (ha : ViD X a ta φa) : PuD X (.UnaryOp .Not a pos) (tNotT X.K ta) (notF φa) := ⟨pe_notT ha.pe, fun ρ d e G H σ x Q k => by
  obtain ⟨d1, e1, e2⟩ := Option.bind_eq_some_iff.mp e
  obtain ⟨kk, e3, rfl⟩ := Option.map_eq_some_iff.mp e2
  exact ha.ev ρ d1 e1 G H σ x _ fun v G1 H1 f1 r1 => ⟨kk, tru_of e3 f1.gh r1, k _ G1 H1 f1 (.lf rfl)⟩⟩
/-! tests -/
def truF (φ : Env → Option D) : Env → Option Bool := fun ρ => (φ ρ).bind truD
def asB : D → Option Bool
  | .leaf (.bl b) => some b
  | _ => none
def asBF (φ : Env → Option D) : Env → Option Bool := fun ρ => (φ ρ).bind asB
theorem te_tru (ha : ViD X a ta φa) (he : ∀ whole, isTrue a X.env whole = (do let v ← whole; standAt a.pos; holding [v] (truthy v))) : TeD X a (fun σ H Q => ta σ H fun x H' => ∃ k, TruV X.K x H' k ∧ Q k H') (truF φa) := ⟨pt_truth ha.pe he, fun ρ b e G H σ x Q k => by
  obtain ⟨d1, e1, e2⟩ := Option.bind_eq_some_iff.mp e
  exact ha.ev ρ d1 e1 G H σ x _ fun v G1 H1 f1 r1 => ⟨b, tru_of e2 f1.gh r1, k G1 H1 f1⟩⟩
theorem te_test {t : TE} (h : PuS t φ) : TeS (tTest t) (asBF φ) := fun ρ b e G H σ x Q k => by
  obtain ⟨d1, e1, e2⟩ := Option.bind_eq_some_iff.mp e
  refine h ρ d1 e1 G H σ x _ fun v G1 H1 f1 r1 => ?_
  unfold asB at e2
  split at e2
  · cases e2
    obtain ⟨rfl, _⟩ := r1.un_lf
    exact ⟨_, rfl, k G1 H1 f1⟩
  · cases e2
theorem te_cmp {op : CmpOp} {r : R2} {o : D → D → Option D} (ho : OpR X (compareOp op) r) (hd : R2D r o) (hm : behindInMarks op b = false) (ha : ViD X a ta φa) (hb : ViD X b tb φb) : TeD X (.Compare a [op] [b] pos) (tTest (tOp r ta tb)) (asBF (bin2 o φa φb)) :=
  ⟨pt_cmpR ho ha.pe hb.pe hm, te_test (op_ev hd ha.ev hb.ev)⟩
theorem TwD.te {tt : TT} {χ : Env → Option Bool} (h : TwD X a tt χ) : TeD X a tt χ := ⟨h.pw.pt, h.ev⟩
def andB (χ ξ : Env → Option Bool) : Env → Option Bool := fun ρ => (χ ρ).bind fun k => if k = true then ξ ρ else some false
def orB (χ ξ : Env → Option Bool) : Env → Option Bool := fun ρ => (χ ρ).bind fun k => if k = true then some true else ξ ρ
def notB (χ : Env → Option Bool) : Env → Option Bool := fun ρ => (χ ρ).map (!·)
variable {tt tu : TT} {χ ξ : Env → Option Bool}
theorem tw_and1 (h : TeD X a tt χ) : TwD X (.BoolOp .And [a] pos) tt χ := ⟨pw_and1 h.pt, h.ev⟩
theorem tw_or1 (h : TeD X a tt χ) : TwD X (.BoolOp .Or [a] pos) tt χ := ⟨pw_or1 h.pt, h.ev⟩
theorem tw_and (h : TeD X a tt χ) (h2 : TwD X (.BoolOp .And (b :: rest) pos) tu ξ) : TwD X (.BoolOp .And (a :: b :: rest) pos) (tAnd tt tu) (andB χ ξ) := ⟨pw_and h.pt h2.pw, fun ρ b e G H σ x Q k => by
  obtain ⟨k1, e1, e2⟩ := Option.bind_eq_some_iff.mp e
  refine h.ev ρ k1 e1 G H σ x _ fun G1 H1 f1 => ?_
  cases k1 with
  | true => exact h2.ev ρ b e2 G1 H1 σ (x.mono f1) Q fun G2 H2 f2 => k G2 H2 (f1.trans f2)
  | false => cases e2; exact k G1 H1 f1⟩
theorem tw_or (h : TeD X a tt χ) (h2 : TwD X (.BoolOp .Or (b :: rest) pos) tu ξ) : TwD X (.BoolOp .Or (a :: b :: rest) pos) (tOr tt tu) (orB χ ξ) := ⟨pw_or h.pt h2.pw, fun ρ b e G H σ x Q k => by
  obtain ⟨k1, e1, e2⟩ := Option.bind_eq_some_iff.mp e
  refine h.ev ρ k1 e1 G H σ x _ fun G1 H1 f1 => ?_
  cases k1 with
  | false => exact h2.ev ρ b e2 G1 H1 σ (x.mono f1) Q fun G2 H2 f2 => k G2 H2 (f1.trans f2)
  | true => cases e2; exact k G1 H1 f1⟩
theorem te_not (h : TeD X a tt χ) : TeD X (.UnaryOp .Not a pos) (tNot tt) (notB χ) := ⟨pt_not h.pt, fun ρ b e G H σ x Q k => by
  obtain ⟨k1, e1, rfl⟩ := Option.map_eq_some_iff.mp e
  exact h.ev ρ k1 e1 G H σ x _ fun G1 H1 f1 => k G1 H1 f1⟩
def ifF {β : Type} (χ : Env → Option Bool) (φ ψ : Env → Option β) : Env → Option β := fun ρ => (χ ρ).bind fun k => if k = true then φ ρ else ψ ρ
theorem pu_if (h : TeD X c tt χ) (ha : PuD X a ta φa) (hb : PuD X b tb φb) : PuD X (.IfExp c a b pos) (tIf tt ta tb) (ifF χ φa φb) := ⟨pe_ifExp h.pt ha.pe hb.pe, fun ρ d e G H σ x Q k => by
  obtain ⟨k1, e1, e2⟩ := Option.bind_eq_some_iff.mp e
  refine h.ev ρ k1 e1 G H σ x _ fun G1 H1 f1 => ?_
  cases k1 with
  | true => exact ha.ev ρ d e2 G1 H1 σ (x.mono f1) Q fun v G2 H2 f2 r => k v G2 H2 (f1.trans f2) r
  | false => exact hb.ev ρ d e2 G1 H1 σ (x.mono f1) Q fun v G2 H2 f2 r => k v G2 H2 (f1.trans f2) r⟩
/-! ### displays -/
theorem pu_tup {x1 : _} {tr : TA} (h : ArD X es tr ψ) : PuD X (.Tuple es x1 pos) (tTup tr) (fun ρ => (ψ ρ).bind fun ds => if ds.length ≤ Lim then some (.seq false ds) else none) := ⟨pe_tup h.pa, fun ρ d e G H σ x Q k => by
  obtain ⟨ds, e1, e2⟩ := Option.bind_eq_some_iff.mp e
  split at e2
  · rename_i hl
    cases e2
    refine h.ev ρ ds e1 G H σ x _ fun vs G1 H1 f1 r1 => ⟨by rw [r1.len]; exact lim_line (by omega), fun p np => k _ _ _ (f1.trans (.new f1.gh np)) (.sq (b := false) upd_same hl (r1.mono (Ex.new (f1.gh.back np))))⟩
  · cases e2⟩
theorem ow_lst {tr : TA} (h : ArD X es tr ψ) : OwD X (.List es pos) (tLst tr) (fun ρ => (ψ ρ).bind fun ds => if ds.length ≤ Lim then some ds else none) := ⟨pe_lst h.pa, fun ρ d e G H σ x Q k => by
  obtain ⟨ds, e1, e2⟩ := Option.bind_eq_some_iff.mp e
  split at e2
  · rename_i hl
    cases e2
    refine h.ev ρ _ e1 G H σ x _ fun vs G1 H1 f1 r1 => ⟨by rw [r1.len]; exact lim_line (by omega), fun p np => k p vs G1 _ (f1.trans (.tmp f1.gh np)) (f1.ne np) (f1.gh.back np) upd_same hl r1⟩
  · cases e2⟩
/-! ### slices -/
def PoS (t : TO) (φ : Env → Option (Option Int)) : Prop := ∀ ρ o, φ ρ = some o → ∀ (G H : Hp) (σ : St), EnvOk G H σ ρ → ∀ Q : Option Int → Hp → Prop, (∀ G2 H2, Fr G H G2 H2 → Q o H2) → t σ H Q
structure PoD (X : Cx) (e : Option Expr) (t : TO) (φ : Env → Option (Option Int)) : Prop where
  po : PO X e t
  ev : PoS t φ
theorem so_none : PoD X none tNoPart (fun _ => some none) := ⟨po_none, fun ρ o e G H σ x Q k => by cases e; exact k G H (.refl x.gh)⟩
def asI : D → Option Int
  | .leaf (.int i) => some i
  | _ => none
theorem so_some (h : PuD X e t φ) : PoD X (some e) (tPart t) (fun ρ => ((φ ρ).bind asI).map some) := ⟨po_some h.pe, fun ρ o ee G H σ x Q k => by
  obtain ⟨i, e1, rfl⟩ := Option.map_eq_some_iff.mp ee
  obtain ⟨d, e2, e3⟩ := Option.bind_eq_some_iff.mp e1
  refine h.ev ρ d e2 G H σ x _ fun v G1 H1 f1 r1 => ?_
  unfold asI at e3
  split at e3
  · cases e3
    obtain ⟨rfl, _⟩ := r1.un_lf
    exact ⟨i, rfl, k G1 H1 f1⟩
  · cases e3⟩
def cutD {α : Type} (xs : List α) (lo hi : Option Int) : List α := (xs.drop (HT.sIx xs.length 0 lo)).take (HT.sIx xs.length xs.length hi - HT.sIx xs.length 0 lo)
theorem reps_cut {H : Hp} {ds : List D} {us : List V} (h : Reps H ds us) (lo hi : Option Int) : Reps H (cutD ds lo hi) (cutV us lo hi) := by
  unfold cutD cutV
  rw [h.len]
  exact (h.dp _).tk _
theorem cut_len {α : Type} (xs : List α) (lo hi : Option Int) : (cutD xs lo hi).length ≤ xs.length := by
  unfold cutD
  rw [List.length_take, List.length_drop]
  omega
def slF {β : Type} (op : D → Option Int → Option Int → Option β) (φ : Env → Option D) (l h : Env → Option (Option Int)) : Env → Option β := fun ρ => (φ ρ).bind fun x => (l ρ).bind fun lo => (h ρ).bind fun hi => op x lo hi
def slO : D → Option Int → Option Int → Option (List D)
  | .seq true ds, lo, hi => some (cutD ds lo hi)
  | _, _, _ => none
def slT : D → Option Int → Option Int → Option D
  | .seq false ds, lo, hi => some (.seq false (cutD ds lo hi))
  | _, _, _ => none
section
variable {lo hi : Option Expr} {tl th : TO} {l h : Env → Option (Option Int)} {p2 : Pos}
theorem slF_un {β : Type} {op : D → Option Int → Option Int → Option β} {ρ : Env} {z : β} (e : slF op φ l h ρ = some z) : ∃ x i j, φ ρ = some x ∧ l ρ = some i ∧ h ρ = some j ∧ op x i j = some z := by
  obtain ⟨x, h1, h2⟩ := Option.bind_eq_some_iff.mp e
  obtain ⟨i, h3, h4⟩ := Option.bind_eq_some_iff.mp h2
  obtain ⟨j, h5, h6⟩ := Option.bind_eq_some_iff.mp h4
  exact ⟨x, i, j, h1, h3, h5, h6⟩
theorem ow_sl (ha : ViD X a ta φ) (hl : PoD X lo tl l) (hh : PoD X hi th h) : OwD X (.Subscript a (.Slice lo hi none p2) pos) (tSl (rSlL X.K) ta tl th) (slF slO φ l h) := ⟨pe_slice sl_list ha.pe hl.po hh.po, fun ρ z e G H σ x Q k => by
  obtain ⟨d, i, j, e1, e2, e3, e4⟩ := slF_un e
  refine ha.ev ρ d e1 G H σ x _ fun v G1 H1 f1 r1 => ?_
  refine hl.ev ρ i e2 G1 H1 σ (x.mono f1) _ fun G2 H2 f2 => ?_
  refine hh.ev ρ j e3 G2 H2 σ ((x.mono f1).mono f2) _ fun G3 H3 f3 => ?_
  have f := f1.trans (f2.trans f3)
  have r3 := r1.mono (f2.trans f3)
  unfold slO at e4
  split at e4
  · rename_i ds lo' hi'
    cases e4
    obtain ⟨a1, us, rfl, h1, l1, q1⟩ := r3.seq f3.gh
    exact ⟨a1, us, rfl, SqL.of h1, fun p np => k p _ G3 _ (f.trans (.tmp f3.gh np)) (f.ne np) (f3.gh.back np) upd_same (Nat.le_trans (cut_len _ _ _) l1) (reps_cut q1 _ _)⟩
  · cases e4⟩
theorem pu_slT (ha : ViD X a ta φ) (hl : PoD X lo tl l) (hh : PoD X hi th h) : PuD X (.Subscript a (.Slice lo hi none p2) pos) (tSl (rSlA X.K) ta tl th) (slF slT φ l h) := ⟨pe_slice sl_tupA ha.pe hl.po hh.po, fun ρ z e G H σ x Q k => by
  obtain ⟨d, i, j, e1, e2, e3, e4⟩ := slF_un e
  refine ha.ev ρ d e1 G H σ x _ fun v G1 H1 f1 r1 => ?_
  refine hl.ev ρ i e2 G1 H1 σ (x.mono f1) _ fun G2 H2 f2 => ?_
  refine hh.ev ρ j e3 G2 H2 σ ((x.mono f1).mono f2) _ fun G3 H3 f3 => ?_
  have f := f1.trans (f2.trans f3)
  have r3 := r1.mono (f2.trans f3)
  match d, e4, r3 with
  | .seq false ds, e4, r3 =>
    cases e4
    have r4 := r3.tup
    obtain ⟨a1, us, rfl, h1, l1, q1⟩ := r4.un_sq
    refine ⟨a1, us, rfl, SqT.of (f3.gh _ _ h1), fun w => ?_, fun w p np => k _ _ _ (f.trans (.new f3.gh np)) (.sq (b := false) upd_same (Nat.le_trans (cut_len _ _ _) l1) ((reps_cut q1 _ _).mono (Ex.new (f3.gh.back np))))⟩
    have e5 : cutD ds i j = ds := by
      unfold cutD
      rw [← q1.len, w.1, w.2, List.drop_zero, Nat.sub_zero, q1.len, List.take_length]
    rw [e5] at k
    exact k _ _ _ f r4
  | .seq true ds, e4, _ => cases e4
  | .leaf _, e4, _ => cases e4
  | .dct _ _, e4, _ => cases e4
  | .obj _ _ _, e4, _ => cases e4
  | .frz _ _, e4, _ => cases e4⟩
end
end
end
end L2.Tr

namespace Vy
open PySem
open Sem (wp)
open AutoSeq1 (wpAny_loadPart')
theorem meets_enumT (l : Addr) (items : Array Value) (n : Nat) (dct : Option Addr) (sl : Array (Option Value)) :
    Meets (Builtin.«enumerate.__new__» ⟨[.type "enumerate", .ref l], []⟩) (fun _ R s => s.heap.get? l = some { cls := .type "tuple", dict := dct, data := .seq items n, slots := sl } ∧
      R (.ok (.ret (.ref (s.heap.push { cls := .type "tuple_iterator", data := .fields #[.ref l, .int 0 0] }).objs.size)))
        { s with heap := (s.heap.push { cls := .type "tuple_iterator", data := .fields #[.ref l, .int 0 0] }).push { cls := .type "enumerate", data := .fields #[.none, .bool false, .ref s.heap.objs.size, rawInt 0, .none, .none] } }) :=
  .of_wp fun prog w A R s h => by
    obtain ⟨hp, g, d, tk, os⟩ := s
    obtain ⟨hl, h⟩ := h
    have sb := sub_enumerate
    have hT : Heap.IsTuple (Shared.heap ⟨hp, g, d, tk, os⟩) l items := ⟨_, hl, rfl, n, rfl⟩
    wp_walk using wpAny_loadPart' hl
    refine wpAny_stack_any fun st => wpAny_pure ?_
    split
    · rename_i c _ _ _ _ _
      cases (c == Value.type "enumerate") <;> (wp_walk using wpAny_loadPart' hl, wpAny_pyIter_tuple hT; exact ⟨_, rfl, h⟩)
    · wp_walk using wpAny_loadPart' hl, wpAny_pyIter_tuple hT
      exact ⟨_, rfl, h⟩
theorem call_enumT {prog : Program} {w : World} {A : Around} {E : Value → Shared → Prop} {s : Shared} {l : Addr} {items : Array Value} {Q : Value → Shared → Prop} (hT : s.heap.IsTuple l items)
    (h : ∀ h', IsEnum h' (s.heap.objs.size + 1) s.heap.objs.size 0 .none → h'.IsTupleIter s.heap.objs.size l 0 → h'.objs.size = s.heap.objs.size + 2 →
      (∀ b o, s.heap.get? b = some o → h'.get? b = some o) → Q (.ref (s.heap.objs.size + 1)) { s with heap := h' }) : wpAny (model prog w) A (call (.type "enumerate") [.ref l]) Q E s := by
  obtain ⟨⟨c, dct, dt, sl⟩, hl, hc, n, hd⟩ := hT
  simp only at hc hd
  subst hc hd
  refine callType_new F.called_enumerate (by decide) (F.typeCall_enumerate_1 _) (F.newCall_enumerate_1 _) (fun obj => F.args_object_init_2 obj _) F.entry_enumerate_new (meets_enumT l items n dct sl) ⟨hl, ?_⟩
  show _ ∧ _
  have z : (s.heap.push { cls := .type "tuple_iterator", data := .fields #[.ref l, .int 0 0] }).objs.size = s.heap.objs.size + 1 := Heap.size_push ..
  rw [z]
  have he : IsEnum ((s.heap.push { cls := .type "tuple_iterator", data := .fields #[.ref l, .int 0 0] }).push { cls := .type "enumerate", data := .fields #[.none, .bool false, .ref s.heap.objs.size, rawInt 0, .none, .none] }) (s.heap.objs.size + 1) s.heap.objs.size 0 .none := by
    have q := Heap.get?_push_size (s.heap.push { cls := .type "tuple_iterator", data := .fields #[.ref l, .int 0 0] }) (o := { cls := .type "enumerate", data := .fields #[.none, .bool false, .ref s.heap.objs.size, rawInt 0, .none, .none] }) rfl
    rw [z] at q
    exact q
  refine ⟨⟨_, he, rfl⟩, h _ he ⟨_, Heap.get?_push_of_some _ (Heap.get?_push_size _ rfl), rfl, rfl⟩ (by rw [Heap.size_push, z]) fun b o x => Heap.get?_push_of_some _ (Heap.get?_push_of_some _ x)⟩
end Vy
namespace L2.Vy
open PySem PySem.Spec PyProof.Rows
/-- enumerate over a tuple -/
def IteT (K : PySem.W.Frag) (a : Addr) : It :=
  ⟨fun i H => ∃ (xs : List V) (x : V), SqT K H a xs ∧ xs[i]? = some x,
    fun i H v H' => ∃ T x, v = .ref T ∧ H T = none ∧ H' = upd H T (.tup [.int (i : Nat), x]) ∧ ∀ xs, SqT K H a xs → xs[i]? = some x,
    fun i H => ∃ xs : List V, SqT K H a xs ∧ xs.length = i⟩
theorem turn_eT {P : Program} {w : World} {K : PySem.W.Frag} {elts : List Expr} {kk : Nat} {tpos : Pos} (a e it : Addr) :
    Turn P w K (.Tuple elts kk tpos) (IteT K a) [e, it] e (fun i h => (∃ old, IsEnum h e it ((i : Nat) : Int) old) ∧ h.IsTupleIter it a i ∧ e ≠ it ∧ a ≠ it ∧ e ≠ a) where
  mem := by simp
  obj := fun i h st b hb => by
    obtain ⟨⟨old, he⟩, ⟨o, ho, hc, hd⟩, _⟩ := st
    have eb : b = e ∨ b = it := by simpa using hb
    rcases eb with q | q
    · rw [q]; exact ⟨_, he, fun v z => nomatch z⟩
    · rw [q]; exact ⟨o, ho, fun v z => by rw [hd] at z; cases z⟩
  keep := fun i h h' st k => let ⟨⟨old, he⟩, hi, hn⟩ := st; ⟨⟨old, k e (by simp) _ he⟩, hi.at fun o q => k it (by simp) o q, hn⟩
  item := by
    intro X hP hw hK hc i pins s σ H E I hf st hg
    subst hP hw hK
    obtain ⟨⟨old, he⟩, hit, hne, hai, hea⟩ := st
    obtain ⟨xs, x, hq, hx⟩ := hg
    obtain ⟨its, rv, p, hz⟩ := I.tuple hq
    obtain ⟨u, hu, ru⟩ := rv.get hx
    have hi : i < its.toArray.size := by
      have := (List.getElem?_eq_some_iff.mp hu).1
      simpa using this
    have le : e < s.heap.objs.size := Heap.lt_size he
    have li : it < s.heap.objs.size := by obtain ⟨_, q, _⟩ := hit; exact Heap.lt_size q
    refine wpAny_pyNext_enum_itemD (Draws.tuple (show X.A.in1.handled = none from I.ok.hd hc) it a hai its.toArray) he ⟨hit, p⟩ hi hne (by simp [hne, hea]) fun y h' tk hy ho st' hT hsz hk => ?_
    obtain rfl : u = y := by
      have z : its.toArray[i]? = some u := by simpa using hu
      rw [z] at hy
      exact Option.some.inj hy
    refine ⟨_, rfl, wpAny_letOwnedTupleGo_enum (s := { s with heap := h', toks := tk + 1 }) ho fun h2 he' sb => ?_⟩
    have hT2 : h2.get? s.heap.objs.size = some { cls := .type "tuple", data := .seq #[.int i tk, u] } := (sb.2 _ (Nat.ne_of_gt le)).trans hT
    have new : ObjOk X.prog X.w (upd H s.heap.objs.size (.tup [.int (i : Nat), x])) h2 s.heap.objs.size (.tup [.int (i : Nat), x]) :=
      ⟨by show 2 ≤ sizeLine; decide, [.int i tk, u], .cons ⟨_, rfl⟩ (.cons ru .nil), ⟨_, hT2, rfl, _, rfl⟩⟩
    have J : Inv X pins σ (upd H s.heap.objs.size (.tup [.int (i : Nat), x])) { s with heap := h2, toks := tk + 1 } :=
      I.turnedNew (ch := [e, it]) (fun b ob hb q => (sb.2 b (fun z => hb (by simp [z]))).trans (hk b ob (fun z => hb (by simp [z])) (fun z => hb (by simp [z])) q)) hf (Nat.le_refl _) new
    refine ⟨.ref s.heap.objs.size, _, J, rfl, ⟨_, x, rfl, I.hok.fresh (Nat.le_refl _), rfl, fun ys hy => by rw [I.tuple_inj hy hq]; exact hx⟩, ⟨⟨u, ?_⟩, st'.1.at fun o q => (sb.2 it (Ne.symm hne)).trans q, hne, hai, hea⟩, fun b hb => ?_⟩
    · rw [show ((i + 1 : Nat) : Int) = (i : Int) + 1 by omega]
      exact he'
    · have lb : b < s.heap.objs.size := by
        have eb : b = e ∨ b = it := by simpa using hb
        rcases eb with z | z
        · rw [z]; exact le
        · rw [z]; exact li
      rw [upd_ne (Nat.ne_of_lt lb)]
      exact (hf b hb).1
  done := by
    intro X hP hw hK hc i pins s σ H E I hf st hg
    subst hP hw hK
    obtain ⟨⟨old, he⟩, hit, hne, hai, hea⟩ := st
    obtain ⟨xs, hq, hx⟩ := hg
    obtain ⟨its, rv, p, hz⟩ := I.tuple hq
    obtain ⟨f0, f1, f2, f3, f4, f5⟩ := hf it (by simp)
    have hi : i = its.toArray.size := by
      rw [← hx, rv.length]
      simp
    rw [hi] at hit
    exact wpAny_pyNext_enum_endD (Draws.tuple (show X.A.in1.handled = none from I.ok.hd hc) it a hai its.toArray) he ⟨hit, p⟩ fun h' eb => ⟨rfl, I.turned (t' := s.toks) (fun b o hb q => eb b o hb q) f0 f1 f3 f4 f5⟩
  self := fun A i s Q E st h => let ⟨⟨_, he⟩, _⟩ := st; wpAny_pyIter_enum he h
def iEnT (K : PySem.W.Frag) (ta : TA) : TI := fun σ H R => ta σ H fun vs H1 => ∃ a xs, vs = [.ref a] ∧ SqT K H1 a xs ∧ R (IteT K a) H1
theorem pi_enT {X : Cx} {e : Expr} {ta : TA} {p pos tpos : Pos} {elts : List Expr} {kk : Nat} (hg : Gl X "enumerate") (hm : X.mg "enumerate" = none) (ha : PA X [e] ta) (hs : starEach [e] X.env = [(false, eval e X.env)] := by rfl) :
    PI X (.Tuple elts kk tpos) (.Call (.Name "enumerate" p) [e] [] pos) (iEnT X.K ta) := by
  refine ⟨fun pins s σ H R I h => ?_⟩
  refine Call_ (ld_blt I hg hm boot_enumerate (PyProof.Rows.callWith_type1 (thn (ha.run pos pins s σ H _ I h) fun us s1 ⟨vs, H1, J, r1, q1⟩ => ?_) hs rfl))
  obtain ⟨a, xs, ex, hq, q⟩ := q1
  subst ex
  cases r1 with
  | cons r rr =>
    cases rr
    cases r
    obtain ⟨its, rv, tp, hz⟩ := J.tuple hq
    refine _root_.Vy.call_enumT tp fun h' he hit hsz hk => wpAny_pyIter_enum he ?_
    have J2 : Inv X pins σ H1 { s1 with heap := h' } := J.kept (t' := s1.toks) hk
    have la : a < s1.heap.objs.size := tp.lt
    refine ⟨s1.heap.objs.size + 1, [s1.heap.objs.size + 1, s1.heap.objs.size], _, _, H1, rfl, J2, turn_eT a (s1.heap.objs.size + 1) s1.heap.objs.size, ⟨⟨.none, he⟩, hit, Nat.succ_ne_self _, Nat.ne_of_lt la, Nat.ne_of_gt (Nat.lt_succ_of_lt la)⟩, fun b hb => ?_, q⟩
    have eb : b = s1.heap.objs.size + 1 ∨ b = s1.heap.objs.size := by simpa using hb
    have lb : s1.heap.objs.size ≤ b := by
      rcases eb with z | z
      · rw [z]; exact Nat.le_succ _
      · rw [z]; exact Nat.le_refl _
    exact J.fpOk lb (J.hok.fresh lb)
theorem walk_enT {K : PySem.W.Frag} {a : Addr} {xs : List V} : Walk (IteT K a) xs.length (fun H => SqT K H a xs) (YPair (fun i => some (.int (i : Nat))) (fun i => xs[i]?)) := by
  refine ⟨fun i _ hi q => ⟨xs, xs[i], q, List.getElem?_eq_getElem hi⟩, fun _ q => ⟨xs, q, rfl⟩, fun i H v H' _ q y => ?_⟩
  obtain ⟨T, x, z1, z2, z3, z4⟩ := y
  exact ⟨T, .int (i : Nat), x, z1, z2, z3, rfl, z4 xs q⟩
/-- x in o, o an instance whose class has a __contains__ of its own -/
structure Own1 (K : PySem.W.Frag) (C f : Addr) (m : Str) : Prop where
  hs : PySem.W.findIn K (.ref C) m = some (some (.ref f))
  hf : PySem.W.isFn K (.ref f) = true
def rInO (C : Addr) (sp : Sp) (neg : Bool) : R2 := fun x y H Q => ∃ a dx fs, y = .ref a ∧ H a = some (.ins C dx fs) ∧ sp [.ref a, x] H (fun v H' => ∃ b : Bool, v = .bl b ∧ Q (.bl (neg != b)) H') (fun _ _ _ => False)
section
variable {X : Cx} {CX : CXT} {k : Nat} {f C : Addr} {fd : FuncData} {ps : List Str} {sp : Sp}
theorem op_notInO (F : FnOk X.prog X.w X.K X.mg X.base CX k f fd ps sp) (hr : Room k X.A) (O : Own1 X.K C f "__contains__") (hb : Binds X.K fd ps []) (hx : Passes CX X (fun _ _ _ => False)) : OpR X (compareOp .NotIn) (rInO C sp true) := by
  intro pins s σ H x y v u Q I rx ry h
  obtain ⟨a, dx, fs, rfl, ha, q⟩ := h
  obtain rfl : u = Value.ref a := ry
  obtain ⟨mA, J, _⟩ := ins_get I.hok ha
  obtain ⟨od, J, _⟩ := J.look
  obtain ⟨m, fr⟩ := I.fr
  refine PySem.W.notIn_K fr I.ok.mod.kin J O.hs O.hf ?_
  refine thn (run_fn (dvs := []) (ds := []) F hr hb .nil hx I (show Vals [V.ref a, x] [Value.ref a, v] from .cons (show RelV (V.ref a) (Value.ref a) from rfl) (.cons rx .nil)) q) fun u' s1 hq => ?_
  obtain ⟨z, H', I', rz, b, ez, hq⟩ := hq
  subst ez
  obtain rfl : u' = Value.bool b := rz
  exact wpAny_truthy_bool ⟨.bl (true != b), H', I', by cases b <;> rfl, hq⟩
theorem op_inO (F : FnOk X.prog X.w X.K X.mg X.base CX k f fd ps sp) (hr : Room k X.A) (O : Own1 X.K C f "__contains__") (hb : Binds X.K fd ps []) (hx : Passes CX X (fun _ _ _ => False)) : OpR X (compareOp .In) (rInO C sp false) := by
  intro pins s σ H x y v u Q I rx ry h
  obtain ⟨a, dx, fs, rfl, ha, q⟩ := h
  obtain rfl : u = Value.ref a := ry
  obtain ⟨mA, J, _⟩ := ins_get I.hok ha
  obtain ⟨od, J, _⟩ := J.look
  obtain ⟨m, fr⟩ := I.fr
  refine PySem.W.in_K fr I.ok.mod.kin J O.hs O.hf ?_
  refine thn (run_fn (dvs := []) (ds := []) F hr hb .nil hx I (show Vals [V.ref a, x] [Value.ref a, v] from .cons (show RelV (V.ref a) (Value.ref a) from rfl) (.cons rx .nil)) q) fun u' s1 hq => ?_
  obtain ⟨z, H', I', rz, b, ez, hq⟩ := hq
  subst ez
  obtain rfl : u' = Value.bool b := rz
  exact wpAny_truthy_bool ⟨.bl (false != b), H', I', by cases b <;> rfl, hq⟩
/-- list.count of a text -/
def rCntS (K : PySem.W.Frag) : V → List V → Hp → VK → Prop := fun x xs H Q => ∃ (p : Addr) (ys : List Str) (k : Str), x = .ref p ∧ xs = [.str k] ∧ SqL K H p (ys.map V.str) ∧ Q (.int (ys.countP (· == k) : Nat)) H
def isS (k : Str) : Value → Bool
  | .str x _ => x == k
  | _ => false
theorem isS_at {A : Around} {s : Shared} {k : Str} {t : Tok} : ∀ {us : List Value} {ys : List Str}, Vals (ys.map V.str) us → ∀ y ∈ us, SeqAt.EqAt A s y (.str k t) (isS k y)
  | [], [], _, y, h => by simp at h
  | u :: us, y0 :: ys, .cons r rr, y, h => by
    rcases List.mem_cons.mp h with e | h
    · subst e
      obtain ⟨t', rfl⟩ := r
      intro prog w E Q hq
      refine wpAny_eqBool_str ?_
      show Q (decide (y0 = k)) s
      have : isS k (.str y0 t') = decide (y0 = k) := by
        show (y0 == k) = _
        by_cases e : y0 = k
        · rw [e]; simp
        · rw [decide_eq_false e]; simpa using e
      rw [← this]
      exact hq
    · exact isS_at rr y h
theorem isS_count {k : Str} : ∀ {us : List Value} {ys : List Str}, Vals (ys.map V.str) us → us.countP (isS k) = ys.countP (· == k)
  | [], [], _ => rfl
  | u :: us, y :: ys, .cons r rr => by
    obtain ⟨t', rfl⟩ := r
    rw [List.countP_cons, List.countP_cons, isS_count rr]
    rfl
theorem mt_scount : MtR X "list.count" (rCntS X.K) := by
  intro pins s σ H x xs v us Q I rx rxs h
  obtain ⟨p, ys, k, rfl, rfl, hs, q⟩ := h
  obtain rfl : v = Value.ref p := rx
  obtain ⟨u, rfl, ru⟩ := rxs.one
  obtain ⟨t, rfl⟩ := ru
  obtain ⟨its, rv, ⟨⟨cls, dd, data, sl⟩, n, ho, hc, hdn, hd⟩, hlen⟩ := I.list hs
  simp only at hc hd
  subst hc hd
  refine call_meets PySem.F.slot_list_count ⟨_, ho, rfl⟩ PySem.F.entry_list_count (PySem.F.args_list_count_2 _ _) (SeqAt.list_countAt p its.toArray n dd sl (.str k t) (isS k)) ⟨ho, fun y hy => isS_at rv y (by simpa using hy), ?_⟩
  refine ⟨.int (ys.countP (· == k) : Nat), H, I.tok _, ⟨s.toks, ?_⟩, q⟩
  rw [← isS_count rv]
end
end L2.Vy

/-! Trees: statements, loops, comprehensions, defs. -/
namespace L2.Tr
open PySem PySem.Spec PyProof.Rows
/-! ### slots written -/
def Own (σ : St) (ρ : Env) (a : Addr) : Prop := ∃ (i : Nat) (ds : D), ρ[i]? = some (Sl.ow ds) ∧ σ[i]? = some (some (V.ref a))
section
variable {G H G2 H2 G3 H3 : Hp} {σ σ2 σ3 : St} {ρ ρ2 ρ3 : Env}
theorem EnvOk.setP (x : EnvOk G H σ ρ) {d : D} {v : V} (r : Rep G d v) (i : Nat) : EnvOk G H (σ.set i (some v)) (ρ.set i (Sl.pu d)) := by
  have hl := x.len
  refine ⟨x.gh, by rw [List.length_set, List.length_set]; exact hl, fun j e h => ?_, fun j es h => ?_, fun j k es fs p h1 h2 h3 h4 => ?_⟩
  · by_cases hj : i = j
    · subst hj
      have hi : i < ρ.length := by
        have := (List.getElem?_eq_some_iff.mp h).1
        rwa [List.length_set] at this
      rw [List.getElem?_set_self hi] at h
      cases h
      exact ⟨v, List.getElem?_set_self (by omega), r⟩
    · rw [List.getElem?_set_ne hj] at h ⊢
      exact x.pu j e h
  · by_cases hj : i = j
    · subst hj
      have hi : i < ρ.length := by
        have := (List.getElem?_eq_some_iff.mp h).1
        rwa [List.length_set] at this
      rw [List.getElem?_set_self hi] at h
      cases h
    · rw [List.getElem?_set_ne hj] at h ⊢
      exact x.ow j es h
  · have ne : ∀ {j : Nat} {es : D}, (ρ.set i (Sl.pu d))[j]? = some (Sl.ow es) → i ≠ j := fun {j es} h e => by
      subst e
      have hi : i < ρ.length := by
        have := (List.getElem?_eq_some_iff.mp h).1
        rwa [List.length_set] at this
      rw [List.getElem?_set_self hi] at h
      cases h
    rw [List.getElem?_set_ne (ne h1)] at h3
    rw [List.getElem?_set_ne (ne h2)] at h4
    have n1 := ne h1
    have n2 := ne h2
    rw [List.getElem?_set_ne n1] at h1
    rw [List.getElem?_set_ne n2] at h2
    exact x.inj j k es fs p h1 h2 h3 h4
theorem own_setP {d : D} {v : V} {i : Nat} {a : Addr} (hl : σ.length = ρ.length) (h : Own (σ.set i (some v)) (ρ.set i (Sl.pu d)) a) : Own σ ρ a := by
  obtain ⟨j, es, h1, h2⟩ := h
  by_cases hj : i = j
  · subst hj
    have hi : i < ρ.length := by
      have := (List.getElem?_eq_some_iff.mp h1).1
      rwa [List.length_set] at this
    rw [List.getElem?_set_self hi] at h1
    cases h1
  · rw [List.getElem?_set_ne hj] at h1 h2
    exact ⟨j, es, h1, h2⟩
theorem EnvOk.setO (x : EnvOk G H σ ρ) {ds : D} {o : HO} {p : Addr} (i : Nat) (n : G p = none) (hp : H p = some o) (r : Top G ds o) (new : ∀ j es, i ≠ j → ρ[j]? = some (Sl.ow es) → σ[j]? ≠ some (some (V.ref p))) :
    EnvOk G H (σ.set i (some (.ref p))) (ρ.set i (Sl.ow ds)) := by
  have hlen := x.len
  have lt : ∀ {j : Nat} {s : Sl}, (ρ.set i (Sl.ow ds))[j]? = some s → j < ρ.length := fun {j s} h => by
    have := (List.getElem?_eq_some_iff.mp h).1
    rwa [List.length_set] at this
  refine ⟨x.gh, by rw [List.length_set, List.length_set]; exact hlen, fun j e h => ?_, fun j es h => ?_, fun j k es fs q h1 h2 h3 h4 => ?_⟩
  · have hj := lt h
    by_cases e' : i = j
    · subst e'
      rw [List.getElem?_set_self hj] at h
      cases h
    · rw [List.getElem?_set_ne e'] at h ⊢
      exact x.pu j e h
  · have hj := lt h
    by_cases e' : i = j
    · subst e'
      rw [List.getElem?_set_self hj] at h
      cases h
      exact ⟨p, o, List.getElem?_set_self (by omega), n, hp, r⟩
    · rw [List.getElem?_set_ne e'] at h ⊢
      exact x.ow j es h
  · have hj := lt h1
    have hk := lt h2
    by_cases e1 : i = j
    · by_cases e2 : i = k
      · omega
      · subst e1
        rw [List.getElem?_set_self (by omega)] at h3
        rw [List.getElem?_set_ne e2] at h4 h2
        cases h3
        exact absurd h4 (new k fs e2 h2)
    · by_cases e2 : i = k
      · subst e2
        rw [List.getElem?_set_self (by omega)] at h4
        rw [List.getElem?_set_ne e1] at h3 h1
        cases h4
        exact absurd h3 (new j es e1 h1)
      · rw [List.getElem?_set_ne e1] at h3 h1
        rw [List.getElem?_set_ne e2] at h4 h2
        exact x.inj j k es fs q h1 h2 h3 h4
theorem own_setO {ds : D} {p : Addr} {i : Nat} {a : Addr} (hl : σ.length = ρ.length) (h : Own (σ.set i (some (.ref p))) (ρ.set i (Sl.ow ds)) a) : Own σ ρ a ∨ a = p := by
  obtain ⟨j, es, h1, h2⟩ := h
  by_cases hj : i = j
  · subst hj
    have hi : i < ρ.length := by
      have := (List.getElem?_eq_some_iff.mp h1).1
      rwa [List.length_set] at this
    rw [List.getElem?_set_self (by omega)] at h2
    cases h2
    exact .inr rfl
  · rw [List.getElem?_set_ne hj] at h1 h2
    exact .inl ⟨j, es, h1, h2⟩
/-- own instances stay where they are -/
def ObK (σ : St) (ρ : Env) (σ2 : St) (ρ2 : Env) : Prop := ∀ (i : Nat) (C : Addr) (ns : List Str) (ds : List D), ρ2[i]? = some (Sl.ow (.obj C ns ds)) → σ2[i]? = σ[i]? ∧ ∃ C' ns' ds', ρ[i]? = some (Sl.ow (.obj C' ns' ds'))
theorem ObK.refl : ObK σ ρ σ ρ := fun i C ns ds h => ⟨rfl, C, ns, ds, h⟩
theorem ObK.trans (a : ObK σ ρ σ2 ρ2) (b : ObK σ2 ρ2 σ3 ρ3) : ObK σ ρ σ3 ρ3 := fun i C ns ds h => by
  obtain ⟨h1, C', ns', ds', h2⟩ := b i C ns ds h
  obtain ⟨h3, h4⟩ := a i C' ns' ds' h2
  exact ⟨h1.trans h3, h4⟩
/-- a slot is written with what is no own instance -/
theorem obk_set {i : Nat} {s : Sl} {o : Option V} (hs : ∀ C ns ds, s ≠ Sl.ow (.obj C ns ds)) : ObK σ ρ (σ.set i o) (ρ.set i s) := fun j C ns ds h => by
  have hj : i ≠ j := fun e => by
    subst e
    have hi : i < ρ.length := by
      have := (List.getElem?_eq_some_iff.mp h).1
      rwa [List.length_set] at this
    rw [List.getElem?_set_self hi] at h
    exact hs C ns ds (Option.some.inj h)
  rw [List.getElem?_set_ne hj] at h ⊢
  exact ⟨rfl, C, ns, ds, h⟩
theorem obk_same {i : Nat} {s : Sl} (hs : ∀ C ns ds, s = Sl.ow (.obj C ns ds) → ∃ C' ns' ds', ρ[i]? = some (Sl.ow (.obj C' ns' ds'))) : ObK σ ρ σ (ρ.set i s) := fun j C ns ds h => by
  by_cases hj : i = j
  · subst hj
    have hi : i < ρ.length := by
      have := (List.getElem?_eq_some_iff.mp h).1
      rwa [List.length_set] at this
    rw [List.getElem?_set_self hi] at h
    exact ⟨rfl, hs C ns ds (Option.some.inj h)⟩
  · rw [List.getElem?_set_ne hj] at h
    exact ⟨rfl, C, ns, ds, h⟩
/-- what a statement leaves as it is -/
structure FrS (σ : St) (ρ : Env) (G H : Hp) (σ2 : St) (ρ2 : Env) (G2 H2 : Hp) : Prop where
  g : Ex G G2
  h : ∀ a o, H a = some o → ¬ Own σ ρ a → H2 a = some o
  nw : ∀ a, H a ≠ none → G a = none → ¬ Own σ ρ a → G2 a = none
  ow : ∀ a, Own σ2 ρ2 a → Own σ ρ a ∨ H a = none
  ob : ObK σ ρ σ2 ρ2
/-- .. and a return -/
structure FrR (σ : St) (ρ : Env) (G H G2 H2 : Hp) : Prop where
  g : Ex G G2
  gh : Ex G2 H2
  h : ∀ a o, H a = some o → ¬ Own σ ρ a → H2 a = some o
  nw : ∀ a, H a ≠ none → G a = none → ¬ Own σ ρ a → G2 a = none
theorem FrS.refl : FrS σ ρ G H σ ρ G H := ⟨Ex.refl _, fun _ _ h _ => h, fun _ _ h _ => h, fun _ h => .inl h, .refl⟩
theorem FrS.trans (a : FrS σ ρ G H σ2 ρ2 G2 H2) (b : FrS σ2 ρ2 G2 H2 σ3 ρ3 G3 H3) : FrS σ ρ G H σ3 ρ3 G3 H3 := by
  have no : ∀ {c : Addr} {o : HO}, H c = some o → ¬ Own σ ρ c → ¬ Own σ2 ρ2 c := fun {c o} h n z => by
    rcases a.ow c z with q | q
    · exact n q
    · rw [h] at q; cases q
  refine ⟨a.g.trans b.g, fun c o h n => b.h c o (a.h c o h n) (no h n), fun c h1 h2 n => ?_, fun c z => ?_, a.ob.trans b.ob⟩
  · obtain ⟨o, ho⟩ := Option.ne_none_iff_exists'.mp h1
    exact b.nw c (by rw [a.h c o ho n]; exact fun z => by cases z) (a.nw c h1 h2 n) (no ho n)
  · rcases b.ow c z with q | q
    · exact a.ow c q
    · by_cases n : Own σ ρ c
      · exact .inl n
      · cases e : H c with
        | none => exact .inr rfl
        | some o => rw [a.h c o e n] at q; cases q
theorem FrS.transR (a : FrS σ ρ G H σ2 ρ2 G2 H2) (b : FrR σ2 ρ2 G2 H2 G3 H3) : FrR σ ρ G H G3 H3 := by
  have no : ∀ {c : Addr} {o : HO}, H c = some o → ¬ Own σ ρ c → ¬ Own σ2 ρ2 c := fun {c o} h n z => by
    rcases a.ow c z with q | q
    · exact n q
    · rw [h] at q; cases q
  refine ⟨a.g.trans b.g, b.gh, fun c o h n => b.h c o (a.h c o h n) (no h n), fun c h1 h2 n => ?_⟩
  obtain ⟨o, ho⟩ := Option.ne_none_iff_exists'.mp h1
  exact b.nw c (by rw [a.h c o ho n]; exact fun z => by cases z) (a.nw c h1 h2 n) (no ho n)
theorem FrS.of (f : Fr G H G2 H2) : FrS σ ρ G H σ ρ G2 H2 := ⟨f.g, fun a o h _ => f.h a o h, fun a h1 h2 _ => f.nw a h1 h2, fun _ h => .inl h, .refl⟩
theorem FrR.of (f : Fr G H G2 H2) : FrR σ ρ G H G2 H2 := ⟨f.g, f.gh, fun a o h _ => f.h a o h, fun a h1 h2 _ => f.nw a h1 h2⟩
theorem FrS.sub (hs : ∀ a, Own σ2 ρ2 a → Own σ ρ a) (ho : ObK σ ρ σ2 ρ2) : FrS σ ρ G H σ2 ρ2 G H := ⟨Ex.refl _, fun _ _ h _ => h, fun _ _ h _ => h, fun a h => .inl (hs a h), ho⟩
end
/-! ### statements -/
inductive Out where
  | nx (ρ : Env)
  | rt (d : D)
  | bk (ρ : Env)
  | ct (ρ : Env)
def EndOk (De : Ends) (σ : St) (ρ : Env) (G H : Hp) : Out → Prop
  | .nx ρ2 => ∀ σ2 G2 H2, EnvOk G2 H2 σ2 ρ2 → FrS σ ρ G H σ2 ρ2 G2 H2 → De.nx σ2 H2
  | .bk ρ2 => ∀ σ2 G2 H2, EnvOk G2 H2 σ2 ρ2 → FrS σ ρ G H σ2 ρ2 G2 H2 → De.bk σ2 H2
  | .ct ρ2 => ∀ σ2 G2 H2, EnvOk G2 H2 σ2 ρ2 → FrS σ ρ G H σ2 ρ2 G2 H2 → De.ct σ2 H2
  | .rt d => ∀ v G2 H2, FrR σ ρ G H G2 H2 → Rep G2 d v → De.rt v H2
def StS (t : TS) (Φ : Env → Option Out) : Prop := ∀ ρ o, Φ ρ = some o → ∀ (G H : Hp) (σ : St), EnvOk G H σ ρ → ∀ De : Ends, EndOk De σ ρ G H o → t De σ H
structure StD (X : Cx) (st : Stmt) (t : TS) (Φ : Env → Option Out) : Prop where
  ps : PS X st t
  ev : StS t Φ
structure SsD (X : Cx) (st : List Stmt) (t : TS) (Φ : Env → Option Out) : Prop where
  ps : PSs X st t
  ev : StS t Φ
def TgS (g : TG) (θ : D → Env → Option Env) : Prop := ∀ d ρ ρ2, θ d ρ = some ρ2 → ∀ (G H : Hp) (σ : St) (v : V), EnvOk G H σ ρ → Rep G d v → ∀ Q : St → Hp → Prop, (∀ σ2, EnvOk G H σ2 ρ2 → (∀ a, Own σ2 ρ2 a → Own σ ρ a) → ObK σ ρ σ2 ρ2 → Q σ2 H) → g v σ H Q
structure TgD (X : Cx) (tg : Expr) (g : TG) (θ : D → Env → Option Env) : Prop where
  pg : PG X tg g
  ev : TgS g θ
def TgsS (g : TGs) (θ : List D → Env → Option Env) : Prop := ∀ ds ρ ρ2, θ ds ρ = some ρ2 → ∀ (G H : Hp) (σ : St) (vs : List V), EnvOk G H σ ρ → Reps G ds vs → ∀ Q : St → Hp → Prop, (∀ σ2, EnvOk G H σ2 ρ2 → (∀ a, Own σ2 ρ2 a → Own σ ρ a) → ObK σ ρ σ2 ρ2 → Q σ2 H) → g vs σ H Q
structure TgsD (X : Cx) (tg : List Expr) (g : TGs) (θ : List D → Env → Option Env) : Prop where
  pg : PGs X tg g
  ev : TgsS g θ
section
variable {X : Cx} {e tg : Expr} {es : List Expr} {t : TE} {φ : Env → Option D} {ψ : Env → Option (List D)} {g : TG} {θ : D → Env → Option Env} {st : Stmt} {rest a b : List Stmt} {pos : Pos} {ts tu : TS} {Φ Ψ : Env → Option Out} {χ : Env → Option Bool} {tt : TT}
def setF (i : Nat) : D → Env → Option Env := fun d ρ => some (ρ.set i (Sl.pu d))
theorem tg_name {i : Nat} (h : PG X tg (gName i)) : TgD X tg (gName i) (setF i) := ⟨h, fun d ρ ρ2 e G H σ v x r Q k => by
  cases e
  exact k _ (x.setP r i) (fun a z => own_setP x.len z) (obk_set fun _ _ _ z => by cases z)⟩
def nilT : List D → Env → Option Env := fun ds ρ => match ds with
  | [] => some ρ
  | _ => none
def consT (θ : D → Env → Option Env) (τ : List D → Env → Option Env) : List D → Env → Option Env := fun ds ρ => match ds with
  | d :: r => (θ d ρ).bind (τ r)
  | _ => none
theorem tgs_nil : TgsD X [] gNil nilT := ⟨pgs_nil, fun ds ρ ρ2 e G H σ vs x r Q k => by
  unfold nilT at e
  split at e
  · cases e
    rw [r.un0]
    exact ⟨rfl, k σ x (fun _ z => z) .refl⟩
  · cases e⟩
theorem tgs_cons {gs : TGs} {τ : List D → Env → Option Env} (h : TgD X e g θ) (hr : TgsD X es gs τ) (hs : (assignEach (e :: es) X.env).map (·.2) = assign e X.env :: (assignEach es X.env).map (·.2) := by rfl) : TgsD X (e :: es) (gCons g gs) (consT θ τ) := ⟨pgs_cons h.pg hr.pg hs, fun ds ρ ρ2 e G H σ vs x r Q k => by
  unfold consT at e
  split at e
  · rename_i d r'
    obtain ⟨ρ1, e1, e2⟩ := Option.bind_eq_some_iff.mp e
    obtain ⟨u, us, rfl, q, tl⟩ := r.un
    refine ⟨u, us, rfl, h.ev d ρ ρ1 e1 G H σ u x q _ fun σ1 x1 s1 o1 => ?_⟩
    exact hr.ev r' ρ1 ρ2 e2 G H σ1 us x1 tl Q fun σ2 x2 s2 o2 => k σ2 x2 (fun c z => s1 c (s2 c z)) (o1.trans o2)
  · cases e⟩
def tupT (n : Nat) (τ : List D → Env → Option Env) : D → Env → Option Env := fun d ρ => match d with
  | .seq false ds => if ds.length = n then τ ds ρ else none
  | _ => none
theorem tg_tup {k : Nat} {n : Nat} {gs : TGs} {τ : List D → Env → Option Env} (hc : X.calm = true) (h : TgsD X es gs τ) (hn : (assignEach es X.env).length = n := by rfl) (hst : (assignEach es X.env).findIdx? (·.1) = none := by rfl) :
    TgD X (.Tuple es k pos) (gTup X.K n gs) (tupT n τ) := ⟨pg_tup hc h.pg hn hst, fun d ρ ρ2 e G H σ v x r Q k => by
  unfold tupT at e
  split at e
  · rename_i ds
    split at e
    · rename_i hl
      obtain ⟨a, us, rfl, h1, _, q⟩ := r.un_sq
      exact ⟨a, us, rfl, SqT.of (x.gh _ _ h1), by rw [q.len]; exact hl, h.ev ds ρ ρ2 e G H σ us x q Q k⟩
    · cases e
  · cases e⟩
/-! assignments -/
def asgF (φ : Env → Option D) (θ : D → Env → Option Env) : Env → Option Out := fun ρ => (φ ρ).bind fun d => (θ d ρ).map Out.nx
theorem asg_ev (he : PuS t φ) (hg : TgS g θ) : StS (tAsg t g) (asgF φ θ) := fun ρ o e G H σ x De k => by
  obtain ⟨d, e1, e2⟩ := Option.bind_eq_some_iff.mp e
  obtain ⟨ρ2, e3, rfl⟩ := Option.map_eq_some_iff.mp e2
  refine he ρ d e1 G H σ x _ fun v G1 H1 f1 r1 => ?_
  exact hg d ρ ρ2 e3 G1 H1 σ v (x.mono f1) r1 _ fun σ2 x2 s2 o2 => k σ2 G1 H1 x2 ((FrS.of f1).trans (FrS.sub s2 o2))
theorem sd_set {i : Nat} {x : Str} {pos' : Pos} (h : PuD X e t φ) (hp : PS X (.Assign [.Name x pos'] e pos) (tAsg t (gName i))) : StD X (.Assign [.Name x pos'] e pos) (tAsg t (gName i)) (asgF φ (setF i)) :=
  ⟨hp, asg_ev h.ev fun d ρ ρ2 e G H σ v x r Q k => by cases e; exact k _ (x.setP r i) (fun a z => own_setP x.len z) (obk_set fun _ _ _ z => by cases z)⟩
theorem sd_asg (h : PuD X e t φ) (hg : TgD X tg g θ) (hs : swapsWithSole [tg] e pos.line X.env = pure false := by rfl) (hw : swappedStores [tg] e X.env = pure none := by rfl)
    (h1 : (assignEach [tg] X.env).map (·.2) = [assign tg X.env] := by rfl) : StD X (.Assign [tg] e pos) (tAsg t g) (asgF φ θ) := ⟨ps_asg h.pe hg.pg hs hw h1, asg_ev h.ev hg.ev⟩
def asgO (i : Nat) (ψ : Env → Option (List D)) : Env → Option Out := fun ρ => (ψ ρ).map fun ds => .nx (ρ.set i (Sl.ow (.seq true ds)))
theorem own_free {G H : Hp} {σ : St} {ρ : Env} (x : EnvOk G H σ ρ) {p : Addr} (n : H p = none) : ¬ Own σ ρ p := fun ⟨i, ds, h1, h2⟩ => by
  obtain ⟨q, o, h3, h4, h5, _⟩ := x.ow i ds h1
  rw [h2] at h3
  cases h3
  rw [n] at h5
  cases h5
theorem sd_setO {i : Nat} {x : Str} {pos' : Pos} (h : OwD X e t ψ) (hp : PS X (.Assign [.Name x pos'] e pos) (tAsg t (gName i))) : StD X (.Assign [.Name x pos'] e pos) (tAsg t (gName i)) (asgO i ψ) := ⟨hp, fun ρ o e G H σ x De k => by
  obtain ⟨ds, e1, rfl⟩ := Option.map_eq_some_iff.mp e
  refine h.ev ρ ds e1 G H σ x _ fun p us G1 H1 f1 n1 n2 hp hl r => ?_
  have x1 := x.mono f1
  refine k _ G1 H1 (x1.setO i n2 hp ⟨us, rfl, hl, r⟩ fun j es _ h1 h2 => own_free x n1 ⟨j, es, h1, h2⟩) ⟨f1.g, fun a o h _ => f1.h a o h, fun a h1 h2 _ => f1.nw a h1 h2, fun a z => ?_, obk_set fun _ _ _ z => by cases z⟩
  rcases own_setO x.len z with q | q
  · exact .inl q
  · rw [q]; exact .inr n1⟩
/-! sequences -/
def seqF (Φ Ψ : Env → Option Out) : Env → Option Out := fun ρ => (Φ ρ).bind fun o => match o with
  | .nx ρ2 => Ψ ρ2
  | o => some o
theorem seq_ev (h1 : StS ts Φ) (h2 : StS tu Ψ) : StS (tSeq ts tu) (seqF Φ Ψ) := fun ρ o e G H σ x De k => by
  obtain ⟨o1, e1, e2⟩ := Option.bind_eq_some_iff.mp e
  refine h1 ρ o1 e1 G H σ x _ ?_
  cases o1 with
  | nx ρ2 =>
    intro σ2 G2 H2 x2 f2
    refine h2 ρ2 o e2 G2 H2 σ2 x2 De ?_
    cases o with
    | nx ρ3 => exact fun σ3 G3 H3 x3 f3 => k σ3 G3 H3 x3 (f2.trans f3)
    | bk ρ3 => exact fun σ3 G3 H3 x3 f3 => k σ3 G3 H3 x3 (f2.trans f3)
    | ct ρ3 => exact fun σ3 G3 H3 x3 f3 => k σ3 G3 H3 x3 (f2.trans f3)
    | rt d => exact fun v G3 H3 f3 r3 => k v G3 H3 (f2.transR f3) r3
  | rt d => cases e2; exact k
  | bk ρ2 => cases e2; exact k
  | ct ρ2 => cases e2; exact k
theorem ss_nil : SsD X [] tNext (fun ρ => some (.nx ρ)) := ⟨pss_nil, fun ρ o e G H σ x De k => by cases e; exact k σ G H x .refl⟩
theorem ss_one (h : StD X st ts Φ) : SsD X [st] ts Φ := ⟨pss_one h.ps, h.ev⟩
theorem ss_cons (h : StD X st ts Φ) (hr : SsD X rest tu Ψ) : SsD X (st :: rest) (tSeq ts tu) (seqF Φ Ψ) := ⟨pss_cons h.ps hr.ps, seq_ev h.ev hr.ev⟩
/-- what is never come to -/
theorem ss_never : SsD X rest tNever (fun _ => none) := ⟨⟨fun _ _ _ _ _ _ h => False.elim h⟩, fun ρ o e => by cases e⟩
theorem sd_never : StD X st tNever (fun _ => none) := ⟨⟨fun _ _ _ _ _ _ h => False.elim h⟩, fun ρ o e => by cases e⟩
theorem pu_never : PuD X e (fun _ _ _ => False) (fun _ => none) := ⟨⟨fun _ _ _ _ _ _ h => h.elim⟩, fun ρ o e => by cases e⟩
theorem te_never : TeD X e (fun _ _ _ => False) (fun _ => none) := ⟨⟨fun _ _ _ _ _ _ h => h.elim⟩, fun ρ o e => by cases e⟩
/-! return, if, calls alone -/
def retF (φ : Env → Option D) : Env → Option Out := fun ρ => (φ ρ).map Out.rt
theorem sd_ret (h : PuD X e t φ) : StD X (.Return (some e) pos) (tRet t) (retF φ) := ⟨ps_ret h.pe, fun ρ o e G H σ x De k => by
  obtain ⟨d, e1, rfl⟩ := Option.map_eq_some_iff.mp e
  exact h.ev ρ d e1 G H σ x _ fun v G1 H1 f1 r1 => k v G1 H1 (FrR.of f1) r1⟩
/-- an own list is handed back -/
def retO (i : Nat) : Env → Option Out := fun ρ => match ρ[i]? with
  | some (.ow d) => some (.rt d)
  | some (.pu d) => some (.rt d)
  | _ => none
theorem sd_retO {i : Nat} {x : Str} {p : Pos} (h : PE X (.Name x p) (tVar i)) : StD X (.Return (some (.Name x p)) pos) (tRet (tVar i)) (retO i) := ⟨ps_ret h, fun ρ o e G H σ x De k => by
  unfold retO at e
  split at e
  · rename_i ds h1
    cases e
    obtain ⟨p, ob, h2, h3, h4, h5⟩ := x.ow i ds h1
    refine ⟨_, h2, k _ (upd G p ob) H ⟨Ex.new h3, fun a o z => ?_, fun a o z _ => z, fun a z1 z2 z3 => ?_⟩ (h5.rep (Ex.new h3) upd_same)⟩
    · by_cases q : a = p
      · rw [q, upd_same] at z; cases z; rw [q]; exact h4
      · rw [upd_ne q] at z; exact x.gh _ _ z
    · have : a ≠ p := fun q => z3 ⟨i, ds, h1, q ▸ h2⟩
      rw [upd_ne this]; exact z2
  · rename_i d h1
    cases e
    obtain ⟨v, h2, h3⟩ := x.pu i d h1
    exact ⟨_, h2, k v G H (FrR.of (.refl x.gh)) h3⟩
  · cases e⟩
def ifS (χ : Env → Option Bool) (Φ Ψ : Env → Option Out) : Env → Option Out := fun ρ => (χ ρ).bind fun b => if b = true then Φ ρ else Ψ ρ
theorem endOk_fr {De : Ends} {σ : St} {ρ : Env} {G H G1 H1 : Hp} (f : Fr G H G1 H1) {o : Out} (k : EndOk De σ ρ G H o) : EndOk De σ ρ G1 H1 o := by
  cases o with
  | nx ρ3 => exact fun σ3 G3 H3 x3 f3 => k σ3 G3 H3 x3 ((FrS.of f).trans f3)
  | bk ρ3 => exact fun σ3 G3 H3 x3 f3 => k σ3 G3 H3 x3 ((FrS.of f).trans f3)
  | ct ρ3 => exact fun σ3 G3 H3 x3 f3 => k σ3 G3 H3 x3 ((FrS.of f).trans f3)
  | rt d => exact fun v G3 H3 f3 r3 => k v G3 H3 ((FrS.of f).transR f3) r3
theorem sd_if {c : Expr} (h : TeD X c tt χ) (ha : SsD X a ts Φ) (hb : SsD X b tu Ψ) : StD X (.If c a b pos) (tIfS tt ts tu) (ifS χ Φ Ψ) := ⟨ps_if h.pt ha.ps hb.ps, fun ρ o e G H σ x De k => by
  obtain ⟨c1, e1, e2⟩ := Option.bind_eq_some_iff.mp e
  refine h.ev ρ c1 e1 G H σ x _ fun G1 H1 f1 => ?_
  cases c1 with
  | true => exact ha.ev ρ o e2 G1 H1 σ (x.mono f1) De (endOk_fr f1 k)
  | false => exact hb.ev ρ o e2 G1 H1 σ (x.mono f1) De (endOk_fr f1 k)⟩
theorem sd_drop (h : PuD X e t φ) (hs : swapsWith e none pos.line X.env = pure false := by rfl) : StD X (.Expr e pos) (tDrop t) (fun ρ => (φ ρ).map fun _ => .nx ρ) := ⟨ps_expr h.pe hs, fun ρ o e G H σ x De k => by
  obtain ⟨d, e1, rfl⟩ := Option.map_eq_some_iff.mp e
  exact h.ev ρ d e1 G H σ x _ fun v G1 H1 f1 r1 => k σ G1 H1 (x.mono f1) (FrS.of f1)⟩
/-! an own thing is written to -/
theorem grow_ok {G H : Hp} {σ : St} {ρ : Env} (x : EnvOk G H σ ρ) {i : Nat} {xs ys : D} {p : Addr} {ob : HO} (hk : ∀ C ns ds, ys = .obj C ns ds → ∃ C' ns' ds', xs = .obj C' ns' ds') (h1 : ρ[i]? = some (Sl.ow xs)) (h2 : σ[i]? = some (some (V.ref p))) (r : Top G ys ob) :
    EnvOk G (upd H p ob) σ (ρ.set i (Sl.ow ys)) ∧ FrS σ ρ G H σ (ρ.set i (Sl.ow ys)) G (upd H p ob) := by
  have hi : i < ρ.length := (List.getElem?_eq_some_iff.mp h1).1
  obtain ⟨p', o', h3, h4, h5, h6⟩ := x.ow i xs h1
  rw [h2] at h3
  cases h3
  have op : Own σ ρ p := ⟨i, xs, h1, h2⟩
  have oth : ∀ {j : Nat} {s : Sl}, i ≠ j → (ρ.set i (Sl.ow ys))[j]? = some s → ρ[j]? = some s := fun {j s} n e => by rwa [List.getElem?_set_ne n] at e
  refine ⟨⟨fun a o z => ?_, by rw [List.length_set]; exact x.len, fun j e h => ?_, fun j es h => ?_, fun j k es fs q a1 a2 a3 a4 => ?_⟩, ⟨Ex.refl _, fun a o z n => ?_, fun _ _ z _ => z, fun a z => ?_, obk_same fun C ns ds e => ?_⟩⟩
  · have : a ≠ p := fun q => by rw [q, h4] at z; cases z
    rw [upd_ne this]; exact x.gh _ _ z
  · by_cases n : i = j
    · subst n; rw [List.getElem?_set_self hi] at h; cases h
    · exact x.pu j e (oth n h)
  · by_cases n : i = j
    · subst n
      rw [List.getElem?_set_self hi] at h
      cases h
      exact ⟨p, ob, h2, h4, upd_same, r⟩
    · obtain ⟨q, o2, b1, b2, b3, b4⟩ := x.ow j es (oth n h)
      have : q ≠ p := fun e => n (x.inj i j xs es p h1 (oth n h) h2 (e ▸ b1))
      exact ⟨q, o2, b1, b2, by rw [upd_ne this]; exact b3, b4⟩
  · have un : ∀ {j : Nat} {es : D}, (ρ.set i (Sl.ow ys))[j]? = some (Sl.ow es) → ∃ fs, ρ[j]? = some (Sl.ow fs) := fun {j es} h => by
      by_cases n : i = j
      · subst n; exact ⟨xs, h1⟩
      · exact ⟨es, oth n h⟩
    obtain ⟨e1, a1⟩ := un a1
    obtain ⟨e2, a2⟩ := un a2
    exact x.inj j k e1 e2 q a1 a2 a3 a4
  · have : a ≠ p := fun q => n (q ▸ op)
    rw [upd_ne this]; exact z
  · obtain ⟨j, es, a1, a2⟩ := z
    by_cases n : i = j
    · subst n; exact .inl ⟨i, xs, h1, a2⟩
    · exact .inl ⟨j, es, oth n a1, a2⟩
  · obtain ⟨C', ns', ds', e2⟩ := hk C ns ds (by injection e)
    exact ⟨C', ns', ds', by rw [h1, e2]⟩
def growF {β : Type} (i : Nat) (φ : Env → Option β) (op : List D → β → List D) : Env → Option Out := fun ρ => match ρ[i]? with
  | some (.ow (.seq true xs)) => (φ ρ).bind fun d => if (op xs d).length ≤ Lim then some (.nx (ρ.set i (Sl.ow (.seq true (op xs d))))) else none
  | _ => none
theorem sd_app {i : Nat} {o : Expr} {apos cpos : Pos} (h : PuD X e t φ) (hp : PS X (.Expr (.Call (.Attribute o "append" apos) [e] [] cpos) pos) (tDrop (tBM X.K "list" rAppend (tVar i) (tCons t tNil)))) :
    StD X (.Expr (.Call (.Attribute o "append" apos) [e] [] cpos) pos) (tDrop (tBM X.K "list" rAppend (tVar i) (tCons t tNil))) (growF i φ fun xs d => xs ++ [d]) := ⟨hp, fun ρ o e G H σ x De k => by
  unfold growF at e
  split at e
  · rename_i xs h1
    obtain ⟨d, e1, e2⟩ := Option.bind_eq_some_iff.mp e
    split at e2
    · rename_i hl
      cases e2
      obtain ⟨p, ob, h2, h3, h4, us, rfl, h5, h6⟩ := x.ow i _ h1
      refine ⟨_, h2, .inl ⟨rfl, _, SqL.of h4⟩, h.ev ρ d e1 G H σ x _ fun v G1 H1 f1 r1 => ?_⟩
      have g := grow_ok (x.mono f1) (fun _ _ _ z => by cases z) (ys := .seq true (xs ++ [d])) (ob := .lst (us ++ [v])) h1 h2 ⟨_, rfl, hl, (h6.mono f1.g).app (.cons r1 .nil)⟩
      refine ⟨p, us, v, rfl, rfl, f1.h _ _ h4, ?_, k σ G1 _ g.1 ((FrS.of f1).trans g.2)⟩
      have : us.length ≤ Lim := by rw [h6.len]; exact h5
      rw [sizeLine_eq]; have : Lim = 5000 := rfl; omega
    · cases e2
  · cases e⟩
def extArg (φ : Env → Option D) : Env → Option (List D) := fun ρ => (φ ρ).bind fun d => match d with
  | .seq true ds => some ds
  | _ => none
theorem sd_ext {i : Nat} {o : Expr} {apos cpos : Pos} (h : PuD X e t φ) (hp : PS X (.Expr (.Call (.Attribute o "extend" apos) [e] [] cpos) pos) (tDrop (tBM X.K "list" rExtend (tVar i) (tCons t tNil)))) :
    StD X (.Expr (.Call (.Attribute o "extend" apos) [e] [] cpos) pos) (tDrop (tBM X.K "list" rExtend (tVar i) (tCons t tNil))) (growF i (extArg φ) fun xs ds => xs ++ ds) := ⟨hp, fun ρ o e G H σ x De k => by
  unfold growF at e
  split at e
  · rename_i xs h1
    obtain ⟨ds, e1, e2⟩ := Option.bind_eq_some_iff.mp e
    obtain ⟨d, e3, e6⟩ := Option.bind_eq_some_iff.mp e1
    split at e6
    · cases e6
      split at e2
      · rename_i hl
        cases e2
        obtain ⟨p, ob, h2, h3, h4, us, rfl, h5, h6⟩ := x.ow i _ h1
        refine ⟨_, h2, .inl ⟨rfl, _, SqL.of h4⟩, h.ev ρ _ e3 G H σ x _ fun v G1 H1 f1 r1 => ?_⟩
        obtain ⟨q, ws, rfl, q1, q2, q3⟩ := r1.un_sq
        have g := grow_ok (x.mono f1) (fun _ _ _ z => by cases z) (ys := .seq true (xs ++ ds)) (ob := .lst (us ++ ws)) h1 h2 ⟨_, rfl, hl, (h6.mono f1.g).app q3⟩
        refine ⟨p, q, us, ws, rfl, rfl, f1.h _ _ h4, f1.gh _ _ q1, ?_, k σ G1 _ g.1 ((FrS.of f1).trans g.2)⟩
        have h7 : us.length ≤ Lim := by rw [h6.len]; exact h5
        have h8 : ws.length ≤ Lim := by rw [q3.len]; exact q2
        exact lim_line (by omega)
      · cases e2
    · cases e6
  · cases e⟩
/-! ### what is walked -/
def ItS (wi : TI) (ψ : Env → Option (List D)) : Prop := ∀ ρ ds, ψ ρ = some ds → ∀ (G H : Hp) (σ : St), EnvOk G H σ ρ → ∀ R : It → Hp → Prop,
  (∀ J G2 H2 (Γ : Hp → Prop) Y, Fr G H G2 H2 → Walk J ds.length Γ Y → (∀ H', Ex G2 H' → Γ H') →
    (∀ i H' x H'' G', i < ds.length → Ex G2 G' → Ex G' H' → Y i H' x H'' → ∃ d G'', ds[i]? = some d ∧ Fr G' H' G'' H'' ∧ Rep G'' d x) → R J H2) → wi σ H R
structure ItD (X : Cx) (tg e : Expr) (wi : TI) (ψ : Env → Option (List D)) : Prop where
  pi : PI X tg e wi
  ev : ItS wi ψ
theorem PI.or {tg e : Expr} {w1 w2 : TI} (h1 : PI X tg e w1) (h2 : PI X tg e w2) : PI X tg e (fun σ H R => w1 σ H R ∨ w2 σ H R) := ⟨fun pins s σ H R I h => h.elim (h1.run pins s σ H R I) (h2.run pins s σ H R I)⟩
def seqsF (φ : Env → Option D) : Env → Option (List D) := fun ρ => (φ ρ).bind fun d => match d with
  | .seq _ ds => some ds
  | _ => none
theorem seqsF_un {ρ : Env} {ds : List D} (h : seqsF φ ρ = some ds) : ∃ b, φ ρ = some (.seq b ds) := by
  obtain ⟨d, h1, h2⟩ := Option.bind_eq_some_iff.mp h
  split at h2
  · cases h2; exact ⟨_, h1⟩
  · cases h2
theorem yat_ok {us : List V} {ds : List D} {G2 : Hp} (r : Reps G2 ds us) : ∀ i H' x H'' G', i < ds.length → Ex G2 G' → Ex G' H' → YAt us i H' x H'' → ∃ d G'', ds[i]? = some d ∧ Fr G' H' G'' H'' ∧ Rep G'' d x := fun i H' x H'' G' hi g gh ⟨e, h⟩ => by
  subst e
  obtain ⟨d, h1, h2⟩ := r.getV h
  exact ⟨d, G', h1, .refl gh, h2.mono g⟩
/-- for x in a list, a tuple -/
theorem it_seq (h : PuD X e t φ) : ItD X tg e (fun σ H R => iList X.K t σ H R ∨ iTup X.K t σ H R) (seqsF φ) := ⟨PI.or (pi_list h.pe) (pi_tup h.pe), fun ρ ds ee G H σ x R k => by
  obtain ⟨b, e1⟩ := seqsF_un ee
  cases b with
  | true =>
    refine .inl (h.ev ρ _ e1 G H σ x _ fun v G1 H1 f1 r1 => ?_)
    obtain ⟨a, us, rfl, h1, h2, h3⟩ := r1.un_sq
    refine ⟨a, rfl, ⟨us, SqL.of (f1.gh _ _ h1)⟩, k _ G1 H1 (fun H => SqL X.K H a us) _ f1 (by rw [← h3.len]; exact walk_list) (fun H' g => SqL.of (g _ _ h1)) (yat_ok h3)⟩
  | false =>
    refine .inr (h.ev ρ _ e1 G H σ x _ fun v G1 H1 f1 r1 => ?_)
    obtain ⟨a, us, rfl, h1, h2, h3⟩ := r1.un_sq
    refine ⟨a, rfl, ⟨us, SqT.of (f1.gh _ _ h1)⟩, k _ G1 H1 (fun H => SqT X.K H a us) _ f1 (by rw [← h3.len]; exact walk_tup) (fun H' g => SqT.of (g _ _ h1)) (yat_ok h3)⟩⟩
/-- for c in a text -/
def signs (z : Str) : List D := z.cps.toList.map fun c => .leaf (.str ⟨#[c]⟩)
def strsF (φ : Env → Option D) : Env → Option (List D) := fun ρ => (φ ρ).bind fun d => match d with
  | .leaf (.str z) => some (signs z)
  | _ => none
theorem it_str (h : PuD X e t φ) : ItD X tg e (iStr t) (strsF φ) := ⟨pi_str h.pe, fun ρ ds ee G H σ x R k => by
  obtain ⟨d, e1, e2⟩ := Option.bind_eq_some_iff.mp ee
  split at e2
  · rename_i z
    cases e2
    refine h.ev ρ _ e1 G H σ x _ fun v G1 H1 f1 r1 => ?_
    obtain ⟨rfl, _⟩ := r1.un_lf
    have hl : (signs z).length = z.cps.size := by unfold signs; rw [List.length_map, Array.length_toList]
    refine ⟨z, rfl, k _ G1 H1 (fun _ => True) _ f1 (by rw [hl]; exact walk_str) (fun _ _ => trivial) fun i H' y H'' G' hi g gh yy => ?_⟩
    obtain ⟨e3, c, hc, rfl⟩ := yy
    subst e3
    refine ⟨.leaf (.str ⟨#[c]⟩), G', ?_, .refl gh, .lf rfl⟩
    unfold signs
    rw [List.getElem?_map, Array.getElem?_toList, hc]
    rfl
  · cases e2⟩
/-- range(n) -/
def rangeL (n : Int) : List D := (List.range n.toNat).map fun i => .leaf (.int (i : Nat))
def rngF (φ : Env → Option D) : Env → Option (List D) := fun ρ => (φ ρ).bind fun d => match d with
  | .leaf (.int n) => if n ≤ 1000 ∧ -1000 ≤ n then some (rangeL n) else none
  | _ => none
theorem it_rng {p : Pos} (h : PuD X e t φ) (hg : Gl X "range") (hm : X.mg "range" = none) (hs : starEach [e] X.env = [(false, eval e X.env)] := by rfl) : ItD X tg (.Call (.Name "range" p) [e] [] pos) (iRng1 (tCons t tNil)) (rngF φ) := ⟨pi_range1 hg hm (pa_cons h.pe pa_nil hs) hs, fun ρ ds ee G H σ x R k => by
  obtain ⟨d, e1, e2⟩ := Option.bind_eq_some_iff.mp ee
  split at e2
  · rename_i n
    split at e2
    · rename_i hn
      cases e2
      refine h.ev ρ _ e1 G H σ x _ fun v G1 H1 f1 r1 => ?_
      obtain ⟨rfl, _⟩ := r1.un_lf
      have hl : (rangeL n).length = n.toNat := by unfold rangeL; rw [List.length_map, List.length_range]
      refine ⟨n, rfl, by omega, by omega, k _ G1 H1 (fun _ => True) _ f1 (by rw [hl]; exact walk_range) (fun _ _ => trivial) fun i H' y H'' G' hi g gh yy => ?_⟩
      obtain ⟨e3, rfl⟩ := yy
      subst e3
      rw [hl] at hi
      refine ⟨.leaf (.int (i : Nat)), G', ?_, .refl gh, by show Rep G' (D.leaf (V.int (i : Nat))) (V.int (0 + (i : Nat))); rw [Int.zero_add]; exact .lf rfl⟩
      unfold rangeL
      rw [List.getElem?_map, List.getElem?_range hi]
      rfl
    · cases e2
  · cases e2⟩
theorem ypair_ok {f g : Nat → Option V} {ds : List D} {n : Nat} {G2 : Hp} (hf : ∀ (i : Nat) (x y : V), i < n → f i = some x → g i = some y → ∃ d1 d2, ds[i]? = some (.seq false [d1, d2]) ∧ Rep G2 d1 x ∧ Rep G2 d2 y) :
    ∀ i H' x H'' G', i < n → Ex G2 G' → Ex G' H' → YPair f g i H' x H'' → ∃ d G'', ds[i]? = some d ∧ Fr G' H' G'' H'' ∧ Rep G'' d x := fun i H' x H'' G' hi e gh yy => by
  obtain ⟨T, a, b, rfl, nT, rfl, h1, h2⟩ := yy
  obtain ⟨d1, d2, h3, h4, h5⟩ := hf i a b hi h1 h2
  have n2 := gh.back nT
  exact ⟨_, upd G' T (.tup [a, b]), h3, .new gh nT, .sq (b := false) upd_same (by show 2 ≤ Lim; decide) (.cons (h4.mono (e.trans (Ex.new n2))) (.cons (h5.mono (e.trans (Ex.new n2))) .nil))⟩
/-- enumerate(..) -/
def enumL : Nat → List D → List D
  | _, [] => []
  | i, d :: r => .seq false [.leaf (.int (i : Nat)), d] :: enumL (i + 1) r
theorem enum_get : ∀ {ds : List D} {j i : Nat} {d : D}, ds[i]? = some d → (enumL j ds)[i]? = some (.seq false [.leaf (.int ((j + i : Nat) : Int)), d])
  | [], j, i, d, h => by simp at h
  | d0 :: r, j, 0, d, h => by cases h; rfl
  | d0 :: r, j, i + 1, d, h => by
    have := enum_get (j := j + 1) (i := i) (d := d) (by simpa using h)
    rw [show j + (i + 1) = j + 1 + i by omega]
    simpa [enumL] using this
theorem enum_len : ∀ (ds : List D) (j : Nat), (enumL j ds).length = ds.length
  | [], _ => rfl
  | d :: r, j => by rw [enumL, List.length_cons, List.length_cons, enum_len r]
theorem it_enum {p tpos : Pos} {elts : List Expr} {kk : Nat} (h : PuD X e t φ) (hg : Gl X "enumerate") (hm : X.mg "enumerate" = none) (hs : starEach [e] X.env = [(false, eval e X.env)] := by rfl) :
    ItD X (.Tuple elts kk tpos) (.Call (.Name "enumerate" p) [e] [] pos) (fun σ H R => iEnum X.K (tCons t tNil) σ H R ∨ L2.Vy.iEnT X.K (tCons t tNil) σ H R) (fun ρ => (seqsF φ ρ).map (enumL 0)) :=
  ⟨PI.or (pi_enum hg hm (pa_cons h.pe pa_nil hs) hs) (L2.Vy.pi_enT hg hm (pa_cons h.pe pa_nil hs) hs), fun ρ ds ee G H σ x R k => by
  obtain ⟨es, e1, rfl⟩ := Option.map_eq_some_iff.mp ee
  obtain ⟨b, e2⟩ := seqsF_un e1
  have fin : ∀ {G1 : Hp} {us : List V}, Reps G1 es us → ∀ (i : Nat) (x y : V), i < (enumL 0 es).length → (some (V.int (i : Nat)) : Option V) = some x → us[i]? = some y → ∃ d1 d2, (enumL 0 es)[i]? = some (.seq false [d1, d2]) ∧ Rep G1 d1 x ∧ Rep G1 d2 y := fun {G1 us} r i x y hi h1 h2 => by
    cases h1
    obtain ⟨d, h3, h4⟩ := r.getV h2
    have := enum_get (j := 0) h3
    rw [Nat.zero_add] at this
    exact ⟨_, _, this, .lf rfl, h4⟩
  cases b with
  | true =>
    refine .inl (h.ev ρ _ e2 G H σ x _ fun v G1 H1 f1 r1 => ?_)
    obtain ⟨a, us, rfl, h1, h2, h3⟩ := r1.un_sq
    exact ⟨a, us, rfl, SqL.of (f1.gh _ _ h1), k _ G1 H1 (fun H => SqL X.K H a us) _ f1 (by rw [enum_len, ← h3.len]; exact walk_enum) (fun H' g => SqL.of (g _ _ h1)) (ypair_ok (fin h3))⟩
  | false =>
    refine .inr (h.ev ρ _ e2 G H σ x _ fun v G1 H1 f1 r1 => ?_)
    obtain ⟨a, us, rfl, h1, h2, h3⟩ := r1.un_sq
    exact ⟨a, us, rfl, SqT.of (f1.gh _ _ h1), k _ G1 H1 (fun H => SqT X.K H a us) _ f1 (by rw [enum_len, ← h3.len]; exact L2.Vy.walk_enT) (fun H' g => SqT.of (g _ _ h1)) (ypair_ok (fin h3))⟩⟩
end
end L2.Tr

/-! Trees: for, comprehensions, zip, defs and their calls. -/
namespace L2.Tr
open PySem PySem.Spec PyProof.Rows
section
variable {X : Cx} {e e2 tg : Expr} {es : List Expr} {t ta tb te : TE} {φ φa φb : Env → Option D} {ψ : Env → Option (List D)} {g : TG} {θ : D → Env → Option Env} {pos : Pos} {tu : TS} {Φ : Env → Option Out} {χ : Env → Option Bool} {tt : TT} {wi : TI}
/-! zip of two lists, of two tuples -/
def zipL (xs ys : List D) : List D := (xs.zip ys).map fun p => .seq false [p.1, p.2]
theorem zip_len {xs ys : List D} : (zipL xs ys).length = min xs.length ys.length := by unfold zipL; rw [List.length_map, List.length_zip]
theorem walk_zipTT {K : PySem.W.Frag} {a b : Addr} {xs ys : List V} : Walk (RZ.ItzT K a b) (min xs.length ys.length) (fun H => SqT K H a xs ∧ SqT K H b ys) (YPair (fun i => xs[i]?) (fun i => ys[i]?)) := by
  refine ⟨fun i _ hi q => ?_, fun _ q => ⟨xs, ys, q.1, q.2, by omega⟩, fun i H v H' _ q y => ?_⟩
  · exact ⟨xs, ys, xs[i]'(by omega), ys[i]'(by omega), q.1, q.2, List.getElem?_eq_getElem _, List.getElem?_eq_getElem _⟩
  · obtain ⟨T, x, z, z1, z2, z3, z4, z5⟩ := y
    exact ⟨T, x, z, z1, z2, z3, z4 xs q.1, z5 ys q.2⟩
def zipF (φa φb : Env → Option D) : Env → Option (List D) := bin2 (fun x y => match x, y with
  | .seq b xs, .seq c ys => if b = c then some (zipL xs ys) else none
  | _, _ => none) φa φb
theorem zip_get {G : Hp} {xs ys : List D} {us ws : List V} (r1 : Reps G xs us) (r2 : Reps G ys ws) (i : Nat) (x y : V) (h1 : us[i]? = some x) (h2 : ws[i]? = some y) : ∃ d1 d2, (zipL xs ys)[i]? = some (.seq false [d1, d2]) ∧ Rep G d1 x ∧ Rep G d2 y := by
  obtain ⟨d1, a1, a2⟩ := r1.getV h1
  obtain ⟨d2, b1, b2⟩ := r2.getV h2
  refine ⟨d1, d2, ?_, a2, b2⟩
  unfold zipL
  rw [List.getElem?_map, (List.getElem?_zip_eq_some (z := (d1, d2))).mpr ⟨a1, b1⟩]
  rfl
theorem it_zip {p tpos : Pos} {elts : List Expr} {kk : Nat} (ha : PuD X e ta φa) (hb : PuD X e2 tb φb) (hg : Gl X "zip") (hm : X.mg "zip" = none)
    (hs1 : starEach [e2] X.env = (false, eval e2 X.env) :: starEach [] X.env := by rfl) (hs : starEach [e, e2] X.env = (false, eval e X.env) :: starEach [e2] X.env := by rfl) (hpl : (backTo pos (starEach [e2] X.env)).any (·.1) = false := by rfl) :
    ItD X (.Tuple elts kk tpos) (.Call (.Name "zip" p) [e, e2] [] pos) (RZ.iZipA X.K (tCons ta (tCons tb tNil))) (zipF φa φb) := ⟨RZ.pi_zipA hg hm (pa_cons ha.pe (pa_cons hb.pe pa_nil hs1) hs) hs hpl, fun ρ ds ee G H σ x R k => by
  obtain ⟨d1, d2, e1, e2, e3⟩ := bin2_un ee
  split at e3
  · rename_i b xs c ys
    split at e3
    · rename_i hbc
      subst hbc
      cases e3
      refine ha.ev ρ _ e1 G H σ x _ fun v G1 H1 f1 r1 => ?_
      refine hb.ev ρ _ e2 G1 H1 σ (x.mono f1) _ fun v2 G2 H2 f2 r2 => ?_
      obtain ⟨a1, us, rfl, h1, l1, q1⟩ := (r1.mono f2.g).un_sq
      obtain ⟨a2, ws, rfl, h2, l2, q2⟩ := r2.un_sq
      refine ⟨a1, a2, us, ws, rfl, ?_⟩
      cases b with
      | true => exact .inl ⟨SqL.of (f2.gh _ _ h1), SqL.of (f2.gh _ _ h2), k _ G2 H2 (fun H => SqL X.K H a1 us ∧ SqL X.K H a2 ws) _ (f1.trans f2) (walk_zip (by rw [zip_len, q1.len, q2.len])) (fun H' g => ⟨SqL.of (g _ _ h1), SqL.of (g _ _ h2)⟩) (ypair_ok fun i x y _ z1 z2 => zip_get q1 q2 i x y z1 z2)⟩
      | false => exact .inr ⟨SqT.of (f2.gh _ _ h1), SqT.of (f2.gh _ _ h2), k _ G2 H2 (fun H => SqT X.K H a1 us ∧ SqT X.K H a2 ws) _ (f1.trans f2) (by rw [zip_len, ← q1.len, ← q2.len]; exact walk_zipTT) (fun H' g => ⟨SqT.of (g _ _ h1), SqT.of (g _ _ h2)⟩) (ypair_ok fun i x y _ z1 z2 => zip_get q1 q2 i x y z1 z2)⟩
    · cases e3
  · cases e3⟩
/-! for -/
def loopF (θ : D → Env → Option Env) (Φ : Env → Option Out) : List D → Env → Option Out
  | [], ρ => some (.nx ρ)
  | d :: ds, ρ => (θ d ρ).bind fun ρ1 => (Φ ρ1).bind fun o => match o with
    | .nx ρ2 => loopF θ Φ ds ρ2
    | .ct ρ2 => loopF θ Φ ds ρ2
    | .bk ρ2 => some (.nx ρ2)
    | .rt d => some (.rt d)
def forF (ψ : Env → Option (List D)) (θ : D → Env → Option Env) (Φ : Env → Option Out) : Env → Option Out := fun ρ => (ψ ρ).bind fun ds => loopF θ Φ ds ρ
theorem sd_for {body : List Stmt} (hp : PassesOwn (model X.prog X.w) X.A X.env X.xe) (hc : X.calm = true) (hi : ItD X tg e wi ψ) (hg : TgD X tg g θ) (hb : SsD X body tu Φ) (hs : ∀ x, foldedSetIterable e X.env x = pure x := by intro _; rfl) :
    StD X (.For tg e body [] pos) (tFor wi g tu) (forF ψ θ Φ) := ⟨ps_for hp hc hi.pi hg.pg hb.ps hs, fun ρ o ee G H σ x De k => by
  obtain ⟨ds, e1, e2⟩ := Option.bind_eq_some_iff.mp ee
  refine hi.ev ρ ds e1 G H σ x _ fun J G1 H1 Γ Y f1 wk hΓ hY => ?_
  have x1 := x.mono f1
  refine for_it wk (fun i σ' H' => ∃ G' ρ', Ex G1 G' ∧ EnvOk G' H' σ' ρ' ∧ FrS σ ρ G1 H1 σ' ρ' G' H' ∧ loopF θ Φ (ds.drop i) ρ' = some o) ⟨G1, ρ, Ex.refl _, x1, .refl, by rw [List.drop_zero]; exact e2⟩
    (fun i σ' H' _ ⟨G', ρ', g', x', _, _⟩ => hΓ H' (g'.trans x'.gh)) ?_ ?_
  · rintro i y σ' H' H'' hi' ⟨G', ρ', g', x', f', l'⟩ yy
    obtain ⟨d, G'', h1, f2, r2⟩ := hY i H' y H'' G' hi' g' x'.gh yy
    have hd : ds.drop i = d :: ds.drop (i + 1) := by
      rw [List.drop_eq_getElem_cons hi']
      congr 1
      rw [List.getElem?_eq_getElem hi'] at h1
      exact Option.some.inj h1
    rw [hd] at l'
    unfold loopF at l'
    obtain ⟨ρ1, e3, e4⟩ := Option.bind_eq_some_iff.mp l'
    obtain ⟨o1, e5, e6⟩ := Option.bind_eq_some_iff.mp e4
    refine hg.ev d ρ' ρ1 e3 G'' H'' σ' y (x'.mono f2) r2 _ fun σ2 x2 s2 o2 => ?_
    have fr := f'.trans ((FrS.of f2).trans (FrS.sub s2 o2))
    refine hb.ev ρ1 o1 e5 G'' H'' σ2 x2 _ ?_
    cases o1 with
    | nx ρ2 => exact fun σ3 G3 H3 x3 f3 => ⟨G3, ρ2, g'.trans (f2.g.trans f3.g), x3, fr.trans f3, e6⟩
    | ct ρ2 => exact fun σ3 G3 H3 x3 f3 => ⟨G3, ρ2, g'.trans (f2.g.trans f3.g), x3, fr.trans f3, e6⟩
    | bk ρ2 =>
      intro σ3 G3 H3 x3 f3
      cases e6
      exact k σ3 G3 H3 x3 ((FrS.of f1).trans (fr.trans f3))
    | rt z =>
      intro v G3 H3 f3 r3
      cases e6
      exact k v G3 H3 ((FrS.of f1).transR (fr.transR f3)) r3
  · rintro σ' H' ⟨G', ρ', g', x', f', l'⟩
    rw [List.drop_length] at l'
    cases l'
    exact k σ' G' H' x' ((FrS.of f1).trans f')⟩
/-! comprehensions -/
def wipeE (ρ : Env) : List Nat → Env
  | [] => ρ
  | v :: vs => (wipeE ρ vs).set v Sl.un
theorem wipeE_len (ρ : Env) : ∀ vs : List Nat, (wipeE ρ vs).length = ρ.length
  | [] => rfl
  | v :: vs => by unfold wipeE; rw [List.length_set, wipeE_len ρ vs]
theorem wipeE_get {ρ : Env} {i : Nat} {s : Sl} (hs : s ≠ .un) : ∀ {vs : List Nat}, (wipeE ρ vs)[i]? = some s → ρ[i]? = some s ∧ i ∉ vs
  | [], h => ⟨h, by simp⟩
  | v :: vs, h => by
    unfold wipeE at h
    by_cases hi : v = i
    · subst hi
      by_cases hv : v < (wipeE ρ vs).length
      · rw [List.getElem?_set_self hv] at h; cases h; exact absurd rfl hs
      · rw [List.getElem?_eq_none (by simpa using hv)] at h; cases h
    · rw [List.getElem?_set_ne hi] at h
      obtain ⟨h1, h2⟩ := wipeE_get hs h
      exact ⟨h1, by simp only [List.mem_cons, not_or]; exact ⟨fun e => hi e.symm, h2⟩⟩
theorem EnvOk.wipe {G H : Hp} {σ : St} {ρ : Env} (x : EnvOk G H σ ρ) (vs : List Nat) : EnvOk G H (L2.wipe σ vs) (wipeE ρ vs) := by
  refine ⟨x.gh, by rw [wipe_length, wipeE_len]; exact x.len, fun i d h => ?_, fun i ds h => ?_, fun i j ds es p h1 h2 h3 h4 => ?_⟩
  · obtain ⟨h1, h2⟩ := wipeE_get (fun z => by cases z) h
    rw [wipe_out h2]
    exact x.pu i d h1
  · obtain ⟨h1, h2⟩ := wipeE_get (fun z => by cases z) h
    rw [wipe_out h2]
    exact x.ow i ds h1
  · obtain ⟨a1, a2⟩ := wipeE_get (fun z => by cases z) h1
    obtain ⟨b1, b2⟩ := wipeE_get (fun z => by cases z) h2
    rw [wipe_out a2] at h3
    rw [wipe_out b2] at h4
    exact x.inj i j ds es p a1 b1 h3 h4
/-- a target of the block's own names -/
def TgW (g : TG) (vs : List Nat) : Prop := ∀ (v : V) (σ : St) (H : Hp) (Q : St → Hp → Prop), g v σ H Q → g v σ H fun σ2 H2 => wipe σ2 vs = wipe σ vs ∧ Q σ2 H2
def TgsW (g : TGs) (vs : List Nat) : Prop := ∀ (us : List V) (σ : St) (H : Hp) (Q : St → Hp → Prop), g us σ H Q → g us σ H fun σ2 H2 => wipe σ2 vs = wipe σ vs ∧ Q σ2 H2
theorem wipe_set {σ : St} {i : Nat} {o : Option V} : ∀ {vs : List Nat}, i ∈ vs → wipe (σ.set i o) vs = wipe σ vs
  | v :: vs, h => by
    unfold wipe
    by_cases hm : i ∈ vs
    · rw [wipe_set hm]
    · have e : v = i := by
        rcases List.mem_cons.mp h with h | h
        · exact h.symm
        · exact absurd h hm
      subst e
      have : ∀ {ws : List Nat}, v ∉ ws → wipe (σ.set v o) ws = (wipe σ ws).set v o := fun {ws} => by
        induction ws with
        | nil => intro _; rfl
        | cons w ws ih =>
          intro hn
          unfold wipe
          have hne : v ≠ w := fun z => hn (by rw [z]; exact List.mem_cons_self)
          rw [ih (fun z => hn (List.mem_cons_of_mem _ z))]
          first | rw [List.set_comm _ _ hne] | rw [List.set_comm _ _ hne.symm]
      rw [this hm, List.set_set]
theorem wipe_wipe {σ : St} {vs : List Nat} : ∀ {ws : List Nat}, (∀ w ∈ ws, w ∈ vs) → wipe (wipe σ ws) vs = wipe σ vs
  | [], _ => rfl
  | w :: ws, h => by
    rw [show wipe σ (w :: ws) = (wipe σ ws).set w none from rfl, wipe_set (h w List.mem_cons_self), wipe_wipe fun z hz => h z (List.mem_cons_of_mem _ hz)]
theorem tw_name {i : Nat} {vs : List Nat} (h : i ∈ vs) : TgW (gName i) vs := fun v σ H Q q => ⟨wipe_set h, q⟩
theorem tws_nil {vs : List Nat} : TgsW gNil vs := fun us σ H Q q => ⟨q.1, rfl, q.2⟩
theorem tws_cons {g : TG} {gs : TGs} {vs : List Nat} (mono : ∀ v σ H (Q Q' : St → Hp → Prop), (∀ σ' H', Q σ' H' → Q' σ' H') → g v σ H Q → g v σ H Q') (h : TgW g vs) (hs : TgsW gs vs) : TgsW (gCons g gs) vs := fun us σ H Q ⟨v, r, e, q⟩ =>
  ⟨v, r, e, mono v σ H _ _ (fun σ1 H1 ⟨w1, q1⟩ => by
    have := hs r σ1 H1 _ q1
    rw [w1] at this
    exact this) (h v σ H _ q)⟩
theorem mono_nm {i : Nat} : ∀ v σ H (Q Q' : St → Hp → Prop), (∀ σ' H', Q σ' H' → Q' σ' H') → gName i v σ H Q → gName i v σ H Q' := fun _ _ _ _ _ k q => k _ _ q
theorem tw_tup {K : PySem.W.Frag} {n : Nat} {gs : TGs} {vs : List Nat} (h : TgsW gs vs) : TgW (gTup K n gs) vs := fun v σ H Q ⟨a, xs, e1, e2, e3, q⟩ => ⟨a, xs, e1, e2, e3, h xs σ H Q q⟩
def compF (θ : D → Env → Option Env) (χ : Env → Option Bool) (φ : Env → Option D) : List D → Env → Option (List D)
  | [], _ => some []
  | d :: ds, ρ => (θ d ρ).bind fun ρ1 => (χ ρ1).bind fun b => if b = true then (φ ρ1).bind fun z => (compF θ χ φ ds ρ).map (z :: ·) else compF θ χ φ ds ρ
def lcF (vs : List Nat) (ψ : Env → Option (List D)) (θ : D → Env → Option Env) (χ : Env → Option Bool) (φ : Env → Option D) : Env → Option (List D) := fun ρ => (ψ ρ).bind fun ds => if ds.length ≤ Lim then compF θ χ φ ds (wipeE ρ vs) else none
theorem comp_len {θ : D → Env → Option Env} {χ : Env → Option Bool} {φ : Env → Option D} : ∀ {ds : List D} {ρ : Env} {zs : List D}, compF θ χ φ ds ρ = some zs → zs.length ≤ ds.length
  | [], ρ, zs, h => by cases h; exact Nat.le_refl _
  | d :: ds, ρ, zs, h => by
    unfold compF at h
    obtain ⟨ρ1, e1, h⟩ := Option.bind_eq_some_iff.mp h
    obtain ⟨b, e2, h⟩ := Option.bind_eq_some_iff.mp h
    split at h
    · obtain ⟨z, e3, h⟩ := Option.bind_eq_some_iff.mp h
      obtain ⟨r, e4, rfl⟩ := Option.map_eq_some_iff.mp h
      have := comp_len e4
      rw [List.length_cons, List.length_cons]; omega
    · have := comp_len h
      rw [List.length_cons]; omega
def TsS : TT → (Env → Option Bool) → Prop := TeS
def yesF : Env → Option Bool := fun _ => some true
theorem ts_nil : TeS tYes yesF := fun ρ b e G H σ x Q k => by cases e; exact k G H (.refl x.gh)
/-! readings by what they give alone -/
def cPu (φ : Env → Option D) : TE := fun σ H Q => ∃ (ρ : Env) (d : D) (G : Hp), φ ρ = some d ∧ EnvOk G H σ ρ ∧ ∀ v G2 H2, Fr G H G2 H2 → Rep G2 d v → Q v H2
def cTe (χ : Env → Option Bool) : TT := fun σ H Q => ∃ (ρ : Env) (b : Bool) (G : Hp), χ ρ = some b ∧ EnvOk G H σ ρ ∧ ∀ G2 H2, Fr G H G2 H2 → Q b H2
def cTg (vs : List Nat) (θ : D → Env → Option Env) : TG := fun v σ H Q => ∃ (ρ ρ2 : Env) (d : D) (G : Hp), θ d ρ = some ρ2 ∧ EnvOk G H σ ρ ∧ Rep G d v ∧ ∀ σ2, EnvOk G H σ2 ρ2 → (∀ a, Own σ2 ρ2 a → Own σ ρ a) → wipe σ2 vs = wipe σ vs → Q σ2 H
theorem PuD.c (h : PuD X e t φ) : PE X e (cPu φ) := ⟨fun pins s σ H Q I ⟨ρ, d, G, h1, h2, h3⟩ => h.pe.run pins s σ H Q I (h.ev ρ d h1 G H σ h2 Q h3)⟩
theorem TeD.c {tt : TT} (h : TeD X e tt χ) : PT X e (cTe χ) := ⟨fun pins s σ H Q I ⟨ρ, d, G, h1, h2, h3⟩ => h.pt.run pins s σ H Q I (h.ev ρ d h1 G H σ h2 Q h3)⟩
theorem TgD.c {vs : List Nat} (h : TgD X tg g θ) (hw : TgW g vs) : PG X tg (cTg vs θ) := ⟨fun pins s σ H v u Q I r ⟨ρ, ρ2, d, G, h1, h2, h3, h4⟩ => by
  have q := hw v σ H _ (h.ev d ρ ρ2 h1 G H σ v h2 h3 (fun σ2 H2 => H2 = H ∧ EnvOk G H σ2 ρ2 ∧ ∀ a, Own σ2 ρ2 a → Own σ ρ a) fun σ2 x2 s2 _ => ⟨rfl, x2, s2⟩)
  refine thn (h.pg.run pins s σ H v u _ I r q) fun _ s' ⟨σ', H', I', w', e', x', s2⟩ => ?_
  subst e'
  exact ⟨σ', H', I', h4 σ' x' s2 w'⟩⟩
/-- what is walked, at one place -/
def ItAt (wi : TI) (ds : List D) (G H : Hp) (σ : St) : Prop := ∀ R : It → Hp → Prop,
  (∀ J G2 H2 (Γ : Hp → Prop) Y, Fr G H G2 H2 → Walk J ds.length Γ Y → (∀ H', Ex G2 H' → Γ H') →
    (∀ i H' x H'' G', i < ds.length → Ex G2 G' → Ex G' H' → Y i H' x H'' → ∃ d G'', ds[i]? = some d ∧ Fr G' H' G'' H'' ∧ Rep G'' d x) → R J H2) → wi σ H R
theorem lc_at (vs : List Nat) {ds zs : List D} {ρ : Env} {G H : Hp} {σ : St} (hi : ItAt wi ds G H σ) (x : EnvOk G H σ ρ) (hlen : ds.length ≤ Lim) (e2 : compF θ χ φ ds (wipeE ρ vs) = some zs) (Q : VK)
    (k : ∀ p us G2 H2, Fr G H G2 H2 → H p = none → G2 p = none → H2 p = some (.lst us) → zs.length ≤ Lim → Reps G2 zs us → Q (.ref p) H2) : tLc wi (cTg vs θ) (cTe χ) (cPu φ) vs σ H Q := by
  refine hi _ fun J G1 H1 Γ Y f1 wk hΓ hY => fun Dl nD => ?_
  have x1 := (x.mono f1).wipe vs
  refine lc_it wk (fun i H' => ∃ G' acc us rest, Fr G1 H1 G' H' ∧ G' Dl = none ∧ H' Dl = some (.lst us) ∧ Reps G' acc us ∧ acc.length ≤ i ∧ compF θ χ φ (ds.drop i) (wipeE ρ vs) = some rest ∧ zs = acc ++ rest)
    ⟨G1, [], [], zs, .tmp f1.gh nD, f1.gh.back nD, upd_same, .nil, Nat.le_refl _, by rw [List.drop_zero]; exact e2, rfl⟩ (fun i H' _ ⟨G', _, _, _, f', _⟩ => hΓ H' (f'.g.trans f'.gh)) ?_ ?_
  · rintro i y H' H'' hi' ⟨G', acc, us, rest, f', nG, hD, ra, hl, hc, hz⟩ yy
    obtain ⟨d, G'', h1, f2, r2⟩ := hY i H' y H'' G' hi' f'.g f'.gh yy
    have hd : ds.drop i = d :: ds.drop (i + 1) := by
      rw [List.drop_eq_getElem_cons hi']
      congr 1
      rw [List.getElem?_eq_getElem hi'] at h1
      exact Option.some.inj h1
    rw [hd] at hc
    unfold compF at hc
    obtain ⟨ρ1, e3, hc⟩ := Option.bind_eq_some_iff.mp hc
    obtain ⟨b, e4, hc⟩ := Option.bind_eq_some_iff.mp hc
    have f12 := f'.trans f2
    have nG2 : G'' Dl = none := f2.nw _ (by rw [hD]; exact fun z => by cases z) nG
    have hD2 := f2.h _ _ hD
    refine ⟨wipeE ρ vs, ρ1, d, G'', e3, x1.mono f12, r2, fun σ2 x2 _ w2 => ⟨by rw [w2, wipe_wipe fun _ z => z], ρ1, b, G'', e4, x2, fun G3 H3 f3 => ?_⟩⟩
    have nG3 : G3 Dl = none := f3.nw _ (by rw [hD2]; exact fun z => by cases z) nG2
    cases b with
    | true =>
      dsimp only
      rw [if_pos rfl] at hc ⊢
      obtain ⟨z, e5, hc⟩ := Option.bind_eq_some_iff.mp hc
      obtain ⟨rest2, e6, rfl⟩ := Option.map_eq_some_iff.mp hc
      refine ⟨ρ1, z, G3, e5, x2.mono f3, fun v G4 H4 f4 r4 => ?_⟩
      have f34 := f3.trans f4
      have nG4 : G4 Dl = none := f34.nw _ (by rw [hD2]; exact fun z => by cases z) nG2
      have hD4 := f34.h _ _ hD2
      have f14 := f12.trans f34
      have ra4 := ra.mono (f2.g.trans f34.g)
      refine ⟨us, hD4, ?_, G4, acc ++ [z], us ++ [v], rest2, ⟨f14.g, fun a o q => ?_, fun a o q => ?_, f14.nw⟩, nG4, upd_same, ra4.app (.cons r4 .nil), by rw [List.length_append, List.length_singleton]; omega, e6, by rw [hz, List.append_assoc]; rfl⟩
      · rw [ra.len, sizeLine_eq]; have : Lim = 5000 := rfl; omega
      · have : a ≠ Dl := fun e => by rw [e, nG4] at q; cases q
        rw [upd_ne this]; exact f14.gh _ _ q
      · have : a ≠ Dl := ne_of_none q nD
        rw [upd_ne this]; exact f14.h _ _ q
    | false =>
      dsimp only
      rw [if_neg (by decide)] at hc ⊢
      exact ⟨G3, acc, us, rest, f12.trans f3, nG3, f3.h _ _ hD2, ra.mono (f2.g.trans f3.g), by omega, hc, hz⟩
  · rintro H' ⟨G', acc, us, rest, f', nG, hD, ra, hl, hc, hz⟩
    rw [List.drop_length] at hc
    cases hc
    rw [List.append_nil] at hz
    subst hz
    exact k Dl us G' H' (f1.trans f') (f1.ne nD) nG hD (by omega) ra
theorem lc_ev (vs : List Nat) (hi : ItS wi ψ) : OwS (tLc wi (cTg vs θ) (cTe χ) (cPu φ) vs) (lcF vs ψ θ χ φ) := fun ρ zs ee G H σ x Q k => by
  obtain ⟨ds, e1, e2⟩ := Option.bind_eq_some_iff.mp ee
  split at e2
  · rename_i hlen
    exact lc_at vs (hi ρ ds e1 G H σ x) x hlen e2 Q k
  · cases e2
/-- a comprehension's parts -/
structure LcD (X : Cx) (tg iter elt : Expr) (ifs : List Expr) (scope : Scope) (wi : TI) (own : List (Str × Nat)) (ψ : Env → Option (List D)) (θ : D → Env → Option Env) (χ : Env → Option Bool) (φ : Env → Option D) : Prop where
  it : ItD X tg iter wi ψ
  ok : BlkOk X.N X.env.scope scope own
  pg : ∀ (s : Shared) (H : Hp) (C : Addr) (cl : List (Str × Addr)) (fp : List Addr), PG (X.blk s H scope (compEnvC scope cl C X.env) fp) tg (cTg (own.map (·.2)) θ)
  pt : ∀ (s : Shared) (H : Hp) (C : Addr) (cl : List (Str × Addr)) (fp : List Addr), PTs (X.blk s H scope (compEnvC scope cl C X.env) fp) ifs (cTe χ)
  pe : ∀ (s : Shared) (H : Hp) (C : Addr) (cl : List (Str × Addr)) (fp : List Addr), PE (X.blk s H scope (compEnvC scope cl C X.env) fp) elt (cPu φ)
  sc : ∀ x, foldedSetIterable iter X.env x = pure x
theorem LcD.ow {elt iter : Expr} {ifs : List Expr} {scope : Scope} {own : List (Str × Nat)} (h : LcD X tg iter elt ifs scope wi own ψ θ χ φ) (hc : X.calm = true) (hN : X.N.Nodup) :
    OwD X (.ListComp elt [⟨tg, iter, ifs, 0⟩] scope pos) (tLc wi (cTg (own.map (·.2)) θ) (cTe χ) (cPu φ) (own.map (·.2))) (lcF (own.map (·.2)) ψ θ χ φ) :=
  ⟨pe_lc hc hN h.it.pi h.ok h.pg h.pt h.pe h.sc, lc_ev _ h.it.ev⟩
theorem LcD.set {elt iter : Expr} {ifs : List Expr} {scope : Scope} {own : List (Str × Nat)} {i : Nat} {y : Str} {py spos : Pos} (h : LcD X tg iter elt ifs scope wi own ψ θ χ φ) (hc : X.calm = true) (hN : X.N.Nodup) (hy : X.N[i]? = some y) (hyl : X.env.scope.names.lookup y = some .local)
    (hsw : swapsWith (.ListComp elt [⟨tg, iter, ifs, 0⟩] scope pos) (some (.Name y py)) spos.line X.env = pure true) :
    PS X (.Assign [.Name y py] (.ListComp elt [⟨tg, iter, ifs, 0⟩] scope pos) spos) (tAsg (tLc wi (cTg (own.map (·.2)) θ) (cTe χ) (cPu φ) (own.map (·.2))) (gName i)) :=
  ps_setLc hc hN hy hyl hsw h.it.pi h.ok h.pg h.pt h.pe h.sc
theorem lc0 {elt iter : Expr} {scope : Scope} (own : List (Str × Nat)) {g : Shared → Hp → Addr → List (Str × Addr) → List Addr → TG} {te : Shared → Hp → Addr → List (Str × Addr) → List Addr → TE} (hi : ItD X tg iter wi ψ) (ok : BlkOk X.N X.env.scope scope own)
    (hg : ∀ (s : Shared) (H : Hp) (C : Addr) (cl : List (Str × Addr)) (fp : List Addr), TgD (X.blk s H scope (compEnvC scope cl C X.env) fp) tg (g s H C cl fp) θ) (hw : ∀ s H C cl fp, TgW (g s H C cl fp) (own.map (·.2)))
    (he : ∀ (s : Shared) (H : Hp) (C : Addr) (cl : List (Str × Addr)) (fp : List Addr), PuD (X.blk s H scope (compEnvC scope cl C X.env) fp) elt (te s H C cl fp) φ) (hs : ∀ x, foldedSetIterable iter X.env x = pure x := by intro _; rfl) : LcD X tg iter elt [] scope wi own ψ θ yesF φ :=
  ⟨hi, ok, fun s H C cl fp => (hg s H C cl fp).c (hw s H C cl fp), fun s H C cl fp => ⟨fun pins s' σ H' Q I ⟨ρ, b, G, h1, h2, h3⟩ => pts_nil.run pins s' σ H' Q I (ts_nil ρ b h1 G H' σ h2 Q h3)⟩, fun s H C cl fp => (he s H C cl fp).c, hs⟩
theorem lcI {elt iter c : Expr} {scope : Scope} (own : List (Str × Nat)) {g : Shared → Hp → Addr → List (Str × Addr) → List Addr → TG} {te : Shared → Hp → Addr → List (Str × Addr) → List Addr → TE} {tt : Shared → Hp → Addr → List (Str × Addr) → List Addr → TT} (hi : ItD X tg iter wi ψ) (ok : BlkOk X.N X.env.scope scope own)
    (hg : ∀ (s : Shared) (H : Hp) (C : Addr) (cl : List (Str × Addr)) (fp : List Addr), TgD (X.blk s H scope (compEnvC scope cl C X.env) fp) tg (g s H C cl fp) θ) (hw : ∀ s H C cl fp, TgW (g s H C cl fp) (own.map (·.2)))
    (ht : ∀ (s : Shared) (H : Hp) (C : Addr) (cl : List (Str × Addr)) (fp : List Addr), TeD (X.blk s H scope (compEnvC scope cl C X.env) fp) c (tt s H C cl fp) χ)
    (he : ∀ (s : Shared) (H : Hp) (C : Addr) (cl : List (Str × Addr)) (fp : List Addr), PuD (X.blk s H scope (compEnvC scope cl C X.env) fp) elt (te s H C cl fp) φ) (hs : ∀ x, foldedSetIterable iter X.env x = pure x := by intro _; rfl) : LcD X tg iter elt [c] scope wi own ψ θ χ φ :=
  ⟨hi, ok, fun s H C cl fp => (hg s H C cl fp).c (hw s H C cl fp), fun s H C cl fp => pts_one (ht s H C cl fp).c, fun s H C cl fp => (he s H C cl fp).c, hs⟩
/-! defs -/
def spP (f : List D → Option D) : Sp := fun vs H Q _ => ∃ (G : Hp) (ds : List D) (d : D), Ex G H ∧ Reps G ds vs ∧ f ds = some d ∧ ∀ v G2 H2, Fr G H G2 H2 → Rep G2 d v → Q v H2
/-- a def of the program, by what it computes -/
structure Fn (P : Program) (w : World) (K : PySem.W.Frag) (mg : Str → Option Value) (base : Heap) (x : Str) (k n : Nat) (f : List D → Option D) : Prop where
  ex : ∃ (a : Addr) (fd : FuncData) (ps : List Str), FnOk P w K mg base CX0 k a fd ps (spP f) ∧ mg x = some (.ref a) ∧ PySem.W.keepIn K (.ref a) = true ∧ Binds K fd ps []
theorem pu_call {x : Str} {k n : Nat} {f : List D → Option D} {p : Pos} {tr : TA} (h : Fn X.prog X.w X.K X.mg X.base x k n f) (hr : Room k X.A) (hg : Gl X x) (ha : ArD X (e :: es) tr ψ) (hdb : (x == ("__debug__" : Str)) = false := by decide)
    (he : starEach (e :: es) X.env = (false, eval e X.env) :: starEach es X.env := by rfl) (hpl : (backTo pos (starEach es X.env)).any (·.1) = false := by rfl) :
    PuD X (.Call (.Name x p) (e :: es) [] pos) (tCall (spP f) [] E0 tr) (app1 f ψ) := by
  obtain ⟨a, fd, ps, F, h1, h2, h3⟩ := h.ex
  refine ⟨pe_call F hr hg h1 h2 h3 .nil pass0 ha.pa hdb he hpl, fun ρ d ee G H σ x Q k => ?_⟩
  obtain ⟨ds, e1, e2⟩ := Option.bind_eq_some_iff.mp ee
  refine ha.ev ρ ds e1 G H σ x _ fun vs G1 H1 f1 r1 => ⟨G1, ds, d, f1.gh, by rw [List.append_nil]; exact r1, e2, fun v G2 H2 f2 r2 => k v G2 H2 (f1.trans f2) r2⟩
/-- the arguments may be own lists, where what comes back is a leaf -/
def leafOf : Option D → Option D
  | some (.leaf v) => some (.leaf v)
  | _ => none
theorem views_reps {G H : Hp} (x : Ex G H) : ∀ {ds : List D} {vs : List V}, Views G H ds vs → Reps H ds vs
  | [], vs, h => by cases (show vs = [] from h); exact .nil
  | d :: ds, vs, ⟨u, r, e, h1, h2⟩ => by subst e; exact .cons (h1.rep x) (views_reps x h2)
theorem pu_callV {x : Str} {k n : Nat} {f : List D → Option D} {p : Pos} {tr : TA} (h : Fn X.prog X.w X.K X.mg X.base x k n f) (hr : Room k X.A) (hg : Gl X x) (ha : AvD X (e :: es) tr ψ) (hdb : (x == ("__debug__" : Str)) = false := by decide)
    (he : starEach (e :: es) X.env = (false, eval e X.env) :: starEach es X.env := by rfl) (hpl : (backTo pos (starEach es X.env)).any (·.1) = false := by rfl) :
    PuD X (.Call (.Name x p) (e :: es) [] pos) (tCall (spP f) [] E0 tr) (app1 (fun ds => leafOf (f ds)) ψ) := by
  obtain ⟨a, fd, ps, F, h1, h2, h3⟩ := h.ex
  refine ⟨pe_call F hr hg h1 h2 h3 .nil pass0 ha.pa hdb he hpl, fun ρ d ee G H σ x Q k => ?_⟩
  obtain ⟨ds, e1, e2⟩ := Option.bind_eq_some_iff.mp ee
  have e2 : leafOf (f ds) = some d := e2
  unfold leafOf at e2
  split at e2
  · rename_i v0 e3
    cases e2
    refine ha.ev ρ ds e1 G H σ x _ fun vs G1 H1 f1 r1 => ⟨H1, ds, _, Ex.refl _, by rw [List.append_nil]; exact views_reps f1.gh r1, e3, fun v G2 H2 f2 r2 => ?_⟩
    obtain ⟨rfl, lf⟩ := r2.un_lf
    exact k v G1 H2 (f1.trans (.of f1.gh (f2.g.trans f2.gh))) (.lf lf)
  · cases e2
def env0 (n : Nat) (ds : List D) : Env := ds.map Sl.pu ++ List.replicate (n - ds.length) Sl.un
def runF (n : Nat) (Φ : Env → Option Out) : List D → Option D := fun ds => (Φ (env0 n ds)).bind fun o => match o with
  | .rt d => some d
  | .nx _ => some (.leaf .non)
  | _ => none
theorem env0_ok {G H : Hp} (x : Ex G H) {N : List Str} {ds : List D} {vs : List V} (r : Reps G ds vs) : EnvOk G H (start N vs) (env0 N.length ds) := by
  have hl := r.len
  have none_ow : ∀ {i : Nat} {es : D}, (env0 N.length ds)[i]? = some (Sl.ow es) → False := fun {i es} h => by
    unfold env0 at h
    rw [List.getElem?_append] at h
    split at h
    · rw [List.getElem?_map] at h
      cases e : ds[i]? with
      | none => rw [e] at h; cases h
      | some d => rw [e] at h; cases h
    · rw [List.getElem?_replicate] at h
      split at h <;> cases h
  refine ⟨x, ?_, fun i d h => ?_, fun i es h => (none_ow h).elim, fun i j es fs p h => (none_ow h).elim⟩
  · unfold start env0
    rw [List.length_append, List.length_append, List.length_map, List.length_map, List.length_replicate, List.length_replicate, hl]
  · unfold env0 at h
    rw [List.getElem?_append] at h
    split at h
    · rename_i hi
      rw [List.length_map] at hi
      rw [List.getElem?_map] at h
      cases e : ds[i]? with
      | none => rw [e] at h; cases h
      | some d' =>
        rw [e] at h
        cases h
        obtain ⟨u, h1, h2⟩ := r.get e
        refine ⟨u, ?_, h2⟩
        unfold start
        rw [List.getElem?_append_left (by rw [List.length_map]; omega), List.getElem?_map, h1]
        rfl
    · rw [List.getElem?_replicate] at h
      split at h <;> cases h
theorem ok_def {P : Program} {w : World} {K : PySem.W.Frag} {mg : Str → Option Value} {base : Heap} {x qual : Str} {st : Stmt} {f : Addr} {fd : FuncData} {N ps : List Str} {k : Nat} {Φ : Env → Option Out} (F : Fun K x qual st f fd) (S : FnScope N ps (defScope st))
    (hb : ∀ (cdv : Value) (A : Around) (outer : List PySem.Env) (s : Shared) (H : Hp) (E : XK), Room k (A.deeper (envOfC qual (defScope st) s.heap.objs.size f cdv)) → ∃ t, SsD (cxOf CX0 P w K mg base N qual (defScope st) f cdv A outer s H E).nox (defBody st) t Φ) :
    FnOk P w K mg base CX0 (k + 1) f fd ps (spP fun ds => if ds.length = ps.length then runF N.length Φ ds else none) := by
  refine F.ok S (fun vs H Q E h => ?_) (fun cdv A outer s H vs Q E hr h => ?_)
  · obtain ⟨G, ds, d, x, r, e, _⟩ := h
    have e : (if ds.length = ps.length then runF N.length Φ ds else none) = some d := e
    split at e
    · rename_i hl; rw [r.len, hl]
    · cases e
  · obtain ⟨G, ds, d, x, r, e, q⟩ := h
    have e : (if ds.length = ps.length then runF N.length Φ ds else none) = some d := e
    obtain ⟨t, b⟩ := hb cdv A outer s H E hr
    refine ⟨t, b.ps, ?_⟩
    split at e
    · obtain ⟨o, e1, e2⟩ := Option.bind_eq_some_iff.mp e
      have x0 := env0_ok x (N := N) r
      have nown : ∀ a, ¬ Own (start N vs) (env0 N.length ds) a := fun a ⟨i, es, h, _⟩ => by
        unfold env0 at h
        rw [List.getElem?_append] at h
        split at h
        · rw [List.getElem?_map] at h
          cases e : ds[i]? with
          | none => rw [e] at h; cases h
          | some d => rw [e] at h; cases h
        · rw [List.getElem?_replicate] at h
          split at h <;> cases h
      refine b.ev _ o e1 G H _ x0 _ ?_
      cases o with
      | nx ρ2 =>
        cases e2
        exact fun σ2 G2 H2 x2 f2 => q .non G2 H2 ⟨f2.g, x2.gh, fun a o h => f2.h a o h (nown a), fun a h1 h2 => f2.nw a h1 h2 (nown a)⟩ (.lf rfl)
      | rt d' =>
        cases e2
        exact fun v G2 H2 f2 r2 => q v G2 H2 ⟨f2.g, f2.gh, fun a o h => f2.h a o h (nown a), fun a h1 h2 => f2.nw a h1 h2 (nown a)⟩ r2
      | bk ρ2 => cases e2
      | ct ρ2 => cases e2
    · cases e
end
end L2.Tr

/-! Trees: what the emitted derivations name. -/
namespace L2.Tr
open PySem PySem.Spec PyProof.Rows
/-- the names of what is built in stand for it -/
structure TxB (mg : Str → Option Value) : Prop where
  z_len : mg "len" = none
  z_list : mg "list" = none
  z_tuple : mg "tuple" = none
  z_zip : mg "zip" = none
  z_enumerate : mg "enumerate" = none
  z_range : mg "range" = none
  z_any : mg "any" = none
  z_all : mg "all" = none
  z_isinstance : mg "isinstance" = none
  z_int : mg "int" = none
  z_str : mg "str" = none
  z_bool : mg "bool" = none
  z_dict : mg "dict" = none
  z_sum : mg "sum" = none
  z_set : mg "set" = none
section
variable {X : Cx} {e e2 tg a b c : Expr} {es : List Expr} {t t' ta tb tc te : TE} {φ φ' φa φb φc : Env → Option D} {ψ : Env → Option (List D)} {g : TG} {θ : D → Env → Option Env} {pos : Pos} {tu : TS} {Φ : Env → Option Out} {χ : Env → Option Bool} {tt : TT} {wi : TI}
def orE {β : Type} (φ φ' : Env → Option β) : Env → Option β := fun ρ => (φ ρ).or (φ' ρ)
/-- read in one of two ways -/
theorem PuD.or (h : PuD X e t φ) (h' : PuD X e t' φ') : PuD X e (fun σ H Q => t σ H Q ∨ t' σ H Q) (orE φ φ') := ⟨⟨fun pins s σ H Q I w => w.elim (h.pe.run pins s σ H Q I) (h'.pe.run pins s σ H Q I)⟩, fun ρ d ee G H σ x Q k => by
  have ee : (φ ρ).or (φ' ρ) = some d := ee
  cases e1 : φ ρ with
  | some w =>
    rw [e1] at ee
    cases ee
    exact .inl (h.ev ρ _ e1 G H σ x Q k)
  | none =>
    rw [e1] at ee
    exact .inr (h'.ev ρ _ ee G H σ x Q k)⟩
theorem sd_nm {i : Nat} {x : Str} {pos' : Pos} (h : PuD X e t φ) (k : PE X e t → PS X (.Assign [.Name x pos'] e pos) (tAsg t (gName i))) : StD X (.Assign [.Name x pos'] e pos) (tAsg t (gName i)) (asgF φ (setF i)) := sd_set h (k h.pe)
theorem sd_nmO {i : Nat} {x : Str} {pos' : Pos} (h : OwD X e t ψ) (k : PE X e t → PS X (.Assign [.Name x pos'] e pos) (tAsg t (gName i))) : StD X (.Assign [.Name x pos'] e pos) (tAsg t (gName i)) (asgO i ψ) := sd_setO h (k h.pe)
theorem sd_appK {i : Nat} {o : Expr} {apos cpos : Pos} (h : PuD X e t φ) (hp : PE X e t → PS X (.Expr (.Call (.Attribute o "append" apos) [e] [] cpos) pos) (tDrop (tBM X.K "list" rAppend (tVar i) (tCons t tNil)))) :
    StD X (.Expr (.Call (.Attribute o "append" apos) [e] [] cpos) pos) (tDrop (tBM X.K "list" rAppend (tVar i) (tCons t tNil))) (growF i φ fun xs d => xs ++ [d]) := sd_app h (hp h.pe)
theorem sd_extK {i : Nat} {o : Expr} {apos cpos : Pos} (h : PuD X e t φ) (hp : PE X e t → PS X (.Expr (.Call (.Attribute o "extend" apos) [e] [] cpos) pos) (tDrop (tBM X.K "list" rExtend (tVar i) (tCons t tNil)))) :
    StD X (.Expr (.Call (.Attribute o "extend" apos) [e] [] cpos) pos) (tDrop (tBM X.K "list" rExtend (tVar i) (tCons t tNil))) (growF i (extArg φ) fun xs ds => xs ++ ds) := sd_ext h (hp h.pe)
theorem mono_tup {K : PySem.W.Frag} {n : Nat} {gs : TGs} (h : ∀ us σ H (Q Q' : St → Hp → Prop), (∀ σ' H', Q σ' H' → Q' σ' H') → gs us σ H Q → gs us σ H Q') : ∀ v σ H (Q Q' : St → Hp → Prop), (∀ σ' H', Q σ' H' → Q' σ' H') → gTup K n gs v σ H Q → gTup K n gs v σ H Q' :=
  fun v σ H Q Q' k ⟨a, xs, e1, e2, e3, q⟩ => ⟨a, xs, e1, e2, e3, h xs σ H Q Q' k q⟩
theorem mono_nil : ∀ us σ H (Q Q' : St → Hp → Prop), (∀ σ' H', Q σ' H' → Q' σ' H') → gNil us σ H Q → gNil us σ H Q' := fun us σ H Q Q' k q => ⟨q.1, k _ _ q.2⟩
theorem mono_cons {g : TG} {gs : TGs} (h1 : ∀ v σ H (Q Q' : St → Hp → Prop), (∀ σ' H', Q σ' H' → Q' σ' H') → g v σ H Q → g v σ H Q') (h : ∀ us σ H (Q Q' : St → Hp → Prop), (∀ σ' H', Q σ' H' → Q' σ' H') → gs us σ H Q → gs us σ H Q') :
    ∀ us σ H (Q Q' : St → Hp → Prop), (∀ σ' H', Q σ' H' → Q' σ' H') → gCons g gs us σ H Q → gCons g gs us σ H Q' := fun us σ H Q Q' k ⟨v, r, e, q⟩ => ⟨v, r, e, h1 v σ H _ _ (fun σ' H' q' => h r σ' H' Q Q' k q') q⟩
/-! a chain of two comparisons -/
def chainF (o o' : D → D → Option D) (φa φb φc : Env → Option D) : Env → Option D := fun ρ => (φa ρ).bind fun x => (φb ρ).bind fun y => ((o x y).bind asB).bind fun k => if k = true then (φc ρ).bind fun z => o' y z else some (bD false)
theorem chain_ev {r r' : R2} {o o' : D → D → Option D} (hd : R2D r o) (hd' : R2D r' o') (ha : ViS ta φa) (hb : ViS tb φb) (hc : ViS tc φc) : PuS (tChain r r' ta tb tc) (chainF o o' φa φb φc) := fun ρ d ee G H σ x Q k => by
  obtain ⟨d1, e1, ee⟩ := Option.bind_eq_some_iff.mp ee
  obtain ⟨d2, e2, ee⟩ := Option.bind_eq_some_iff.mp ee
  obtain ⟨kk, e3, ee⟩ := Option.bind_eq_some_iff.mp ee
  obtain ⟨d3, e4, e5⟩ := Option.bind_eq_some_iff.mp e3
  refine ha ρ d1 e1 G H σ x _ fun v1 G1 H1 f1 r1 => ?_
  refine hb ρ d2 e2 G1 H1 σ (x.mono f1) _ fun v2 G2 H2 f2 r2 => ?_
  refine hd d1 d2 d3 e4 G2 H2 v1 v2 f2.gh (r1.mono f2) r2 _ fun v3 G3 H3 f3 r3 => ?_
  unfold asB at e5
  split at e5
  · cases e5
    obtain ⟨rfl, _⟩ := r3.un_lf
    refine ⟨kk, rfl, ?_⟩
    have f := f1.trans (f2.trans f3)
    cases kk with
    | true =>
      obtain ⟨d4, e6, e7⟩ := Option.bind_eq_some_iff.mp ee
      refine hc ρ d4 e6 G3 H3 σ (x.mono f) _ fun v4 G4 H4 f4 r4 => ?_
      exact hd' d2 d4 d e7 G4 H4 v2 v4 f4.gh (r2.mono (f3.trans f4)) r4 Q fun v G5 H5 f5 r5 => k v G5 H5 (f.trans (f4.trans f5)) r5
    | false =>
      cases ee
      exact k _ G3 H3 f (.lf rfl)
  · cases e5
theorem te_chain {op op' : CmpOp} {r r' : R2} {o o' : D → D → Option D} (ho : OpR X (compareOp op) r) (ho' : OpR X (compareOp op') r') (hd : R2D r o) (hd' : R2D r' o') (ha : ViD X a ta φa) (hb : ViD X b tb φb) (hc : ViD X c tc φc)
    (hm : lastMarks [op, op'] [b, c] = false := by with_unfolding_all rfl) : TeD X (.Compare a [op, op'] [b, c] pos) (tTest (tChain r r' ta tb tc)) (asBF (chainF o o' φa φb φc)) := ⟨pt_chain ho ho' ha.pe hb.pe hc.pe hm, te_test (chain_ev hd hd' ha.ev hb.ev hc.ev)⟩
/-! is, of truths -/
def isB : D → D → Option D
  | .leaf (.bl a), .leaf (.bl b) => some (bD (decide (a = b)))
  | _, _ => none
theorem r2_isB : R2D rIsB isB := fun d1 d2 z e G H v1 v2 x r1 r2 Q k => by
  unfold isB at e
  split at e
  · cases e
    obtain ⟨rfl, _⟩ := r1.lf
    obtain ⟨rfl, _⟩ := r2.lf
    exact ⟨_, _, rfl, rfl, k _ G H (.refl x) (.lf rfl)⟩
  · cases e
/-! names for what is put together -/
abbrev mapS (ψ : Env → Option (List D)) : Env → Option D := fun ρ => (ψ ρ).map (D.seq true)
abbrev tupDisp (ψ : Env → Option (List D)) : Env → Option D := fun ρ => (ψ ρ).bind fun ds => if ds.length ≤ Lim then some (.seq false ds) else none
abbrev lstDisp (ψ : Env → Option (List D)) : Env → Option (List D) := fun ρ => (ψ ρ).bind fun ds => if ds.length ≤ Lim then some ds else none
abbrev partF (φ : Env → Option D) : Env → Option (Option Int) := fun ρ => ((φ ρ).bind asI).map some
abbrev enumF (φ : Env → Option D) : Env → Option (List D) := fun ρ => (seqsF φ ρ).map (enumL 0)
abbrev skipF : Env → Option Out := fun ρ => some (.nx ρ)
abbrev isF (q : D → Option Bool) (φ : Env → Option D) : Env → Option D := fun ρ => ((φ ρ).bind q).map bD
abbrev lenA : List D → Option D := fun x => (lenD x).or (lenK x)
abbrev lstA : List D → Option (List D) := fun x => (lstO x).or (lstK x)
def negF (φ : Env → Option D) : Env → Option D := fun ρ => ((φ ρ).bind asI).map fun i => .leaf (.int (-i))
theorem pu_neg (h : PuD X a ta φa) : PuD X (.UnaryOp .USub a pos) (tUn (rU fun i => .int (-i)) ta) (negF φa) := ⟨pe_un un_neg h.pe, fun ρ d ee G H σ x Q k => by
  obtain ⟨i, e1, rfl⟩ := Option.map_eq_some_iff.mp ee
  obtain ⟨d1, e2, e3⟩ := Option.bind_eq_some_iff.mp e1
  refine h.ev ρ d1 e2 G H σ x _ fun v G1 H1 f1 r1 => ?_
  unfold asI at e3
  split at e3
  · cases e3
    obtain ⟨rfl, _⟩ := r1.un_lf
    exact ⟨i, rfl, k _ G1 H1 f1 (.lf rfl)⟩
  · cases e3⟩
/-! a, b = x, y -/
def parPP (i j : Nat) (φ φ' : Env → Option D) : Env → Option Out := fun ρ => (φ ρ).bind fun d => (φ' ρ).map fun d' => .nx ((ρ.set i (Sl.pu d)).set j (Sl.pu d'))
def parPO (i j : Nat) (φ : Env → Option D) (ψ : Env → Option (List D)) : Env → Option Out := fun ρ => (φ ρ).bind fun d => (ψ ρ).map fun ds => .nx ((ρ.set i (Sl.pu d)).set j (Sl.ow (.seq true ds)))
abbrev par_pp := parPP
abbrev par_po := parPO
theorem sd_par_pp {i j : Nat} {t1 t2 : TE} (h1 : PuD X a t1 φ) (h2 : PuD X b t2 φ') (hst : i ≠ j) {st : Stmt} (hp : PA X [a, b] (tCons t1 (tCons t2 tNil)) → PS X st (tPar i j (tCons t1 (tCons t2 tNil))))
    (hs1 : starEach [b] X.env = (false, eval b X.env) :: starEach [] X.env := by rfl) (hs : starEach [a, b] X.env = (false, eval a X.env) :: starEach [b] X.env := by rfl) : StD X st (tPar i j (tCons t1 (tCons t2 tNil))) (parPP i j φ φ') := ⟨hp (pa_cons h1.pe (pa_cons h2.pe pa_nil hs1) hs), fun ρ o ee G H σ x De k => by
  obtain ⟨d, e1, ee⟩ := Option.bind_eq_some_iff.mp ee
  obtain ⟨d', e2, rfl⟩ := Option.map_eq_some_iff.mp ee
  refine h1.ev ρ d e1 G H σ x _ fun v G1 H1 f1 r1 => ?_
  refine h2.ev ρ d' e2 G1 H1 σ (x.mono f1) _ fun v2 G2 H2 f2 r2 => ⟨v, v2, rfl, ?_⟩
  have x2 := (x.mono f1).mono f2
  have y := (x2.setP (r1.mono f2.g) i)
  refine k _ G2 H2 (y.setP r2 j) ((FrS.of (f1.trans f2)).trans (FrS.sub (fun c z => own_setP x.len (own_setP y.len z)) ((obk_set fun _ _ _ z => by cases z).trans (obk_set fun _ _ _ z => by cases z))))⟩
theorem sd_par_po {i j : Nat} {t1 t2 : TE} (h1 : PuD X a t1 φ) (h2 : OwD X b t2 ψ) (hst : i ≠ j) {st : Stmt} (hp : PA X [a, b] (tCons t1 (tCons t2 tNil)) → PS X st (tPar i j (tCons t1 (tCons t2 tNil))))
    (hs1 : starEach [b] X.env = (false, eval b X.env) :: starEach [] X.env := by rfl) (hs : starEach [a, b] X.env = (false, eval a X.env) :: starEach [b] X.env := by rfl) : StD X st (tPar i j (tCons t1 (tCons t2 tNil))) (parPO i j φ ψ) := ⟨hp (pa_cons h1.pe (pa_cons h2.pe pa_nil hs1) hs), fun ρ o ee G H σ x De k => by
  obtain ⟨d, e1, ee⟩ := Option.bind_eq_some_iff.mp ee
  obtain ⟨ds, e2, rfl⟩ := Option.map_eq_some_iff.mp ee
  refine h1.ev ρ d e1 G H σ x _ fun v G1 H1 f1 r1 => ?_
  have x1 := x.mono f1
  refine h2.ev ρ ds e2 G1 H1 σ x1 _ fun p us G2 H2 f2 n1 n2 hp hl r2 => ⟨v, _, rfl, ?_⟩
  have x2 := x1.mono f2
  have y := (x2.setP (r1.mono f2.g) i)
  refine k _ G2 H2 (y.setO j n2 hp ⟨us, rfl, hl, r2⟩ fun l es _ z1 z2 => own_free x1 n1 (own_setP x.len ⟨l, es, z1, z2⟩)) ⟨f1.g.trans f2.g, fun c o h _ => f2.h _ _ (f1.h _ _ h), fun c z1 z2 _ => (f1.trans f2).nw c z1 z2, fun c z => ?_, (obk_set fun _ _ _ z => by cases z).trans (obk_set fun _ _ _ z => by cases z)⟩
  rcases own_setO y.len z with q | q
  · exact .inl (own_setP x.len q)
  · rw [q]; exact .inr (f1.ne n1)⟩
/-! x = y, y an own list, which is one no more -/
def moveF (i j : Nat) : Env → Option Out := fun ρ => match ρ[j]? with
  | some (.ow ds) => some (.nx ((ρ.set j (Sl.pu ds)).set i (Sl.pu ds)))
  | _ => none
theorem sd_move {i j : Nat} {x y : Str} {pos' py : Pos} (h : PE X (.Name y py) (tVar j)) (hp : PE X (.Name y py) (tVar j) → PS X (.Assign [.Name x pos'] (.Name y py) pos) (tAsg (tVar j) (gName i))) : StD X (.Assign [.Name x pos'] (.Name y py) pos) (tAsg (tVar j) (gName i)) (moveF i j) := ⟨hp h, fun ρ o ee G H σ x De k => by
  unfold moveF at ee
  split at ee
  · rename_i ds h1
    cases ee
    obtain ⟨p, ob, h2, h3, h4, h5⟩ := x.ow j ds h1
    refine ⟨_, h2, ?_⟩
    have hj : j < ρ.length := (List.getElem?_eq_some_iff.mp h1).1
    have g2 : Ex (upd G p ob) H := fun a o z => by
      by_cases q : a = p
      · rw [q, upd_same] at z; rw [q]; cases z; exact h4
      · rw [upd_ne q] at z; exact x.gh _ _ z
    have rp : Rep (upd G p ob) ds (.ref p) := h5.rep (Ex.new h3) upd_same
    have oth : ∀ {l : Nat} {s : Sl}, j ≠ l → (ρ.set j (Sl.pu ds))[l]? = some s → ρ[l]? = some s := fun {l s} n e => by rwa [List.getElem?_set_ne n] at e
    have ne : ∀ {l : Nat} {es : D}, (ρ.set j (Sl.pu ds))[l]? = some (Sl.ow es) → j ≠ l := fun {l es} h e => by
      subst e
      rw [List.getElem?_set_self hj] at h
      cases h
    have x2 : EnvOk (upd G p ob) H σ (ρ.set j (Sl.pu ds)) := by
      refine ⟨g2, by rw [List.length_set]; exact x.len, fun l e h => ?_, fun l es h => ?_, fun l m es fs q a1 a2 a3 a4 => x.inj l m es fs q (oth (ne a1) a1) (oth (ne a2) a2) a3 a4⟩
      · by_cases n : j = l
        · subst n
          rw [List.getElem?_set_self hj] at h
          cases h
          exact ⟨_, h2, rp⟩
        · obtain ⟨v, b1, b2⟩ := x.pu l e (oth n h)
          exact ⟨v, b1, b2.mono (Ex.new h3)⟩
      · obtain ⟨q, o2, b1, b2, b3, b4⟩ := x.ow l es (oth (ne h) h)
        have : q ≠ p := fun e => ne h (x.inj j l ds es p h1 (oth (ne h) h) h2 (e ▸ b1))
        exact ⟨q, o2, b1, by rw [upd_ne this]; exact b2, b3, b4.mono (Ex.new h3)⟩
    have own : Own σ ρ p := ⟨j, ds, h1, h2⟩
    refine k _ _ H (x2.setP rp i) ⟨Ex.new h3, fun a o z _ => z, fun a z1 z2 z3 => ?_, fun a z => ?_, ObK.trans (obk_same fun _ _ _ z => by cases z) (obk_set fun _ _ _ z => by cases z)⟩
    · have : a ≠ p := fun q => z3 (q ▸ own)
      rw [upd_ne this]; exact z2
    · obtain ⟨l, es, b1, b2⟩ := own_setP x2.len z
      exact .inl ⟨l, es, oth (ne b1) b1, b2⟩
  · cases ee⟩
theorem pu_dnew : PuD X (.Dict [] [] pos) tDNewK (kD (.dct [] [])) := ⟨pe_dnewK, fun ρ d ee G H σ x Q k => by
  cases ee
  exact fun p np => k _ _ _ (.new x.gh np) (.dc (us := []) upd_same rfl (by decide) .nil)⟩
/-! reversed slices -/
def revO (φ : Env → Option D) : Env → Option (List D) := fun ρ => (φ ρ).bind fun d => match d with
  | .seq true ds => some ds.reverse
  | _ => none
theorem ow_rev {k : Nat} {p1 p2 p3 : Pos} (h : ViD X a ta φa) : OwD X (.Subscript a (.Slice none none (some (.UnaryOp .USub (.Constant (.int 1) k p1) p2)) p3) pos) (tRevL X.K ta) (revO φa) := ⟨pe_revL h.pe, fun ρ z ee G H σ x Q kk => by
  obtain ⟨d, e1, e2⟩ := Option.bind_eq_some_iff.mp ee
  refine h.ev ρ d e1 G H σ x _ fun v G1 H1 f1 r1 => ?_
  split at e2
  · cases e2
    obtain ⟨p, us, rfl, h1, l1, q1⟩ := r1.seq f1.gh
    exact ⟨p, us, rfl, SqL.of h1, fun q nq => kk q us.reverse G1 _ (f1.trans (.tmp f1.gh nq)) (f1.ne nq) (f1.gh.back nq) upd_same (by rw [List.length_reverse]; exact l1) q1.rev⟩
  · cases e2⟩
end
end L2.Tr

/-! Trees: instances: fields, methods, __init__; dicts that are filled. -/
namespace L2.Tr
open PySem PySem.Spec PyProof.Rows
section
variable {X : Cx} {e e2 o tg a b c : Expr} {es : List Expr} {t t' ta tb tc te : TE} {φ φ' φa φb φc : Env → Option D} {ψ : Env → Option (List D)} {pos : Pos} {Φ : Env → Option Out}
/-! ### fields -/
def getS : List Str → List D → Str → Option D
  | n :: ns, d :: ds, f => if (f == n) = true then some d else getS ns ds f
  | _, _, _ => none
theorem getS_rep {H : Hp} {f : Str} {d : D} : ∀ {ns : List Str} {ds : List D} {us : List V}, Reps H ds us → getS ns ds f = some d → ∃ u, (ns.zip us).lookup f = some u ∧ Rep H d u
  | [], ds, us, h, e => by simp [getS] at e
  | k :: ks, [], us, h, e => by simp [getS] at e
  | k :: ks, d0 :: ds, us, h, e => by
    obtain ⟨u, r, rfl, q, t⟩ := h.un
    rw [getS] at e
    rw [List.zip_cons_cons, List.lookup_cons]
    split at e
    · rename_i hk
      cases e
      rw [hk]
      exact ⟨u, rfl, q⟩
    · rename_i hk
      have hk' : (f == k) = false := by simpa using hk
      rw [hk']
      exact getS_rep t e
def fldD (C0 : Addr) (f : Str) : D → Option D
  | .obj C ns ds => if C = C0 then getS ns ds f else none
  | _ => none
def fldF (C0 : Addr) (f : Str) (φ : Env → Option D) : Env → Option D := fun ρ => (φ ρ).bind (fldD C0 f)
theorem pu_fld {C0 : Addr} {f : Str} (cl : Cls X.K C0) (n : NoAttr X.K C0 f) (h : ViD X e t φ) (hb : attributeBase e f X.env (eval e X.env) = eval e X.env := by rfl) : PuD X (.Attribute e f pos) (tFld X.K t f) (fldF C0 f φ) := ⟨pe_fld h.pe hb, fun ρ d ee G H σ x Q k => by
  obtain ⟨d1, e1, e2⟩ := Option.bind_eq_some_iff.mp ee
  refine h.ev ρ d1 e1 G H σ x _ fun v G1 H1 f1 r1 => ?_
  unfold fldD at e2
  split at e2
  · split at e2
    · rename_i hC
      subst hC
      obtain ⟨p, dx, us, rfl, h1, h2, h3⟩ := r1.obj f1.gh
      obtain ⟨u, h4, h5⟩ := getS_rep h3 e2
      exact ⟨p, _, dx, _, u, rfl, h1, cl, n, h4, k u G1 H1 f1 h5⟩
    · cases e2
  · cases e2⟩
/-- o.f = e, o an own instance -/
def putS : List Str → List D → Str → D → List Str × List D
  | n :: ns, x :: xs, f, d => if n = f then (n :: ns, d :: xs) else (n :: (putS ns xs f d).1, x :: (putS ns xs f d).2)
  | _, _, f, d => ([f], [d])
theorem putS_rep {G : Hp} {f : Str} {d : D} {v : V} (r : Rep G d v) : ∀ {ns : List Str} {ds : List D} {us : List V}, Reps G ds us → ns.length = ds.length →
    ∃ us', putF f v (ns.zip us) = (putS ns ds f d).1.zip us' ∧ (putS ns ds f d).1.length = (putS ns ds f d).2.length ∧ Reps G (putS ns ds f d).2 us'
  | [], [], us, h, _ => by rw [h.un0]; exact ⟨[v], rfl, rfl, .cons r .nil⟩
  | n :: ns, x :: xs, us, h, hl => by
    obtain ⟨u, us1, rfl, q, t⟩ := h.un
    rw [List.zip_cons_cons, putF, putS]
    by_cases hn : n = f
    · rw [if_pos hn, if_pos hn]
      exact ⟨v :: us1, rfl, hl, .cons r t⟩
    · rw [if_neg hn, if_neg hn]
      obtain ⟨us', h1, h2, h3⟩ := putS_rep r t (by simpa using hl)
      exact ⟨u :: us', by rw [h1]; rfl, by show _ + 1 = _ + 1; rw [h2], .cons q h3⟩
  | [], x :: xs, us, h, hl => by simp at hl
  | n :: ns, [], us, h, hl => by simp at hl
def sfldF (i : Nat) (C0 : Addr) (f : Str) (φ : Env → Option D) : Env → Option Out := fun ρ => match ρ[i]? with
  | some (.ow (.obj C ns ds)) => if C = C0 ∧ ns.length < 100 then (φ ρ).map fun d => .nx (ρ.set i (Sl.ow (.obj C (putS ns ds f d).1 (putS ns ds f d).2))) else none
  | _ => none
theorem sd_fld {i : Nat} {C0 : Addr} {f : Str} {pos' : Pos} (cl : Cls X.K C0) (n : NoAttr X.K C0 f) (ho : PE X o (tVar i)) (h : PuD X e t φ) (hs : swapsWith e (some (.Attribute o f pos')) pos.line X.env = pure false := by rfl) :
    StD X (.Assign [.Attribute o f pos'] e pos) (sFld X.K (tVar i) t f) (sfldF i C0 f φ) := ⟨ps_fld ho h.pe hs, fun ρ out ee G H σ x De k => by
  unfold sfldF at ee
  split at ee
  · rename_i C ns ds h1
    split at ee
    · rename_i hC
      obtain ⟨rfl, hl⟩ := hC
      obtain ⟨d, e1, rfl⟩ := Option.map_eq_some_iff.mp ee
      obtain ⟨p, ob, h2, h3, h4, dx, us, rfl, h5, h6⟩ := x.ow i _ h1
      refine h.ev ρ d e1 G H σ x _ fun v G1 H1 f1 r1 => ⟨_, h2, p, C, dx, ns.zip us, rfl, f1.h _ _ h4, cl, n, ?_, ?_⟩
      · rw [List.length_zip]; omega
      · obtain ⟨us', g1, g2, g3⟩ := putS_rep (f := f) r1 (h6.mono f1.g) h5
        have g := grow_ok (x.mono f1) (fun _ _ _ _ => ⟨C, ns, ds, rfl⟩) (ys := .obj C (putS ns ds f d).1 (putS ns ds f d).2) (ob := .ins C dx (putF f v (ns.zip us))) h1 h2 ⟨dx, us', by rw [g1], g2, g3⟩
        exact k σ G1 _ g.1 ((FrS.of f1).trans g.2)
    · cases ee
  · cases ee⟩
/-! ### methods -/
structure Mth (P : Program) (w : World) (K : PySem.W.Frag) (mg : Str → Option Value) (base : Heap) (C : Addr) (m : Str) (k : Nat) (f : List D → Option D) : Prop where
  ex : ∃ (a : Addr) (fd : FuncData) (ps : List Str), Cls K C ∧ Meth K C m a ∧ FnOk P w K mg base CX0 k a fd ps (spP f) ∧ Binds K fd ps []
theorem lookup_off {f : Str} : ∀ {ns : List Str} {us : List V}, f ∉ ns → (ns.zip us).lookup f = none
  | [], us, h => rfl
  | n :: ns, [], h => rfl
  | n :: ns, u :: us, h => by
    have h1 : (f == n) = false := beq_eq_false_iff_ne.mpr fun z => h (z ▸ List.mem_cons_self)
    rw [List.zip_cons_cons, List.lookup_cons, h1]
    exact lookup_off fun z => h (List.mem_cons_of_mem _ z)
def metD (C0 : Addr) (m : Str) (f : List D → Option D) (x : D) (xs : List D) : Option D := match x with
  | .obj C ns _ => if C = C0 ∧ m ∉ ns then f (x :: xs) else none
  | _ => none
def metF (C0 : Addr) (m : Str) (f : List D → Option D) (φ : Env → Option D) (ψ : Env → Option (List D)) : Env → Option D := fun ρ => (φ ρ).bind fun x => (ψ ρ).bind fun xs => metD C0 m f x xs
theorem met_ev {C0 : Addr} {m : Str} {f : List D → Option D} {tr : TA} (ho : PuS t φ) (ha : ArS tr ψ) : PuS (tMeth C0 m (spP f) [] E0 t tr) (metF C0 m f φ ψ) := fun ρ d ee G H σ x Q k => by
  obtain ⟨d1, e1, ee⟩ := Option.bind_eq_some_iff.mp ee
  obtain ⟨xs, e2, e3⟩ := Option.bind_eq_some_iff.mp ee
  refine ho ρ d1 e1 G H σ x _ fun v G1 H1 f1 r1 => ?_
  unfold metD at e3
  split at e3
  · split at e3
    · rename_i C ns ds hC
      obtain ⟨rfl, hm⟩ := hC
      obtain ⟨p, dx, us, rfl, h1, h2, h3⟩ := r1.un_obj
      refine ⟨p, dx, _, rfl, f1.gh _ _ h1, lookup_off hm, ?_⟩
      refine ha ρ xs e2 G1 H1 σ (x.mono f1) _ fun vs G2 H2 f2 r2 => ?_
      exact ⟨G2, _, d, f2.gh, by rw [List.append_nil]; exact .cons (r1.mono f2.g) r2, e3, fun v G3 H3 f3 r3 => k v G3 H3 (f1.trans (f2.trans f3)) r3⟩
    · cases e3
  · cases e3
theorem pu_meth {C0 : Addr} {m : Str} {k : Nat} {f : List D → Option D} {tr : TA} {apos : Pos} {pl : Sem Bool} (M : Mth X.prog X.w X.K X.mg X.base C0 m k f) (hr : Room k X.A) (ho : PuD X o t φ) (ha : ArD X (e :: es) tr ψ)
    (hst : starEach (e :: es) X.env = (false, eval e X.env) :: starEach es X.env := by rfl) (hpl : (backTo pos (starEach es X.env)).any (·.1) = false := by rfl)
    (ht : eval (.Call (.Attribute o m apos) (e :: es) [] pos) X.env = (do
      let ov ← eval o X.env
      standAt apos.atName
      let (f, first) ← holding [ov] (getMethod ov m pl)
      callWith pos f first (backTo pos (starEach (e :: es) X.env)) (backToKw pos (keywordEach [] X.env))) := by rfl) :
    PuD X (.Call (.Attribute o m apos) (e :: es) [] pos) (tMeth C0 m (spP f) [] E0 t tr) (metF C0 m f φ ψ) := by
  obtain ⟨a, fd, ps, c1, c2, c3, c4⟩ := M.ex
  exact ⟨pe_meth ho.pe c1 c2 c3 hr c4 .nil pass0 ha.pa hst hpl ht, met_ev ho.ev ha.ev⟩
theorem pu_meth0 {C0 : Addr} {m : Str} {k : Nat} {f : List D → Option D} {apos : Pos} {pl : Sem Bool} (M : Mth X.prog X.w X.K X.mg X.base C0 m k f) (hr : Room k X.A) (ho : PuD X o t φ)
    (ht : eval (.Call (.Attribute o m apos) [] [] pos) X.env = (do
      let ov ← eval o X.env
      standAt apos.atName
      let (f, first) ← holding [ov] (getMethod ov m pl)
      callWith pos f first (backTo pos (starEach [] X.env)) (backToKw pos (keywordEach [] X.env))) := by rfl) :
    PuD X (.Call (.Attribute o m apos) [] [] pos) (tMeth C0 m (spP f) [] E0 t tNil) (metF C0 m f φ nilD) := by
  obtain ⟨a, fd, ps, c1, c2, c3, c4⟩ := M.ex
  exact ⟨pe_meth0 ho.pe c1 c2 c3 hr c4 .nil pass0 ht, met_ev ho.ev (ar_nil (X := X)).ev⟩
/-! a def that hands back a new list -/
def spO (f : List D → Option (List D)) : Sp := fun vs H Q _ => ∃ (G : Hp) (ds zs : List D), Ex G H ∧ Reps G ds vs ∧ f ds = some zs ∧
  ∀ p us G2 H2, Fr G H G2 H2 → H p = none → G2 p = none → H2 p = some (.lst us) → zs.length ≤ Lim → Reps G2 zs us → Q (.ref p) H2
structure MthO (P : Program) (w : World) (K : PySem.W.Frag) (mg : Str → Option Value) (base : Heap) (C : Addr) (m : Str) (k : Nat) (f : List D → Option (List D)) : Prop where
  ex : ∃ (a : Addr) (fd : FuncData) (ps : List Str), Cls K C ∧ Meth K C m a ∧ FnOk P w K mg base CX0 k a fd ps (spO f) ∧ Binds K fd ps []
def metDO (C0 : Addr) (m : Str) (f : List D → Option (List D)) (x : D) (xs : List D) : Option (List D) := match x with
  | .obj C ns _ => if C = C0 ∧ m ∉ ns then f (x :: xs) else none
  | _ => none
def metFO (C0 : Addr) (m : Str) (f : List D → Option (List D)) (φ : Env → Option D) : Env → Option (List D) := fun ρ => (φ ρ).bind fun x => metDO C0 m f x []
theorem ow_meth0 {C0 : Addr} {m : Str} {k : Nat} {f : List D → Option (List D)} {apos : Pos} {pl : Sem Bool} (M : MthO X.prog X.w X.K X.mg X.base C0 m k f) (hr : Room k X.A) (ho : PuD X o t φ)
    (ht : eval (.Call (.Attribute o m apos) [] [] pos) X.env = (do
      let ov ← eval o X.env
      standAt apos.atName
      let (f, first) ← holding [ov] (getMethod ov m pl)
      callWith pos f first (backTo pos (starEach [] X.env)) (backToKw pos (keywordEach [] X.env))) := by rfl) :
    OwD X (.Call (.Attribute o m apos) [] [] pos) (tMeth C0 m (spO f) [] E0 t tNil) (metFO C0 m f φ) := by
  obtain ⟨a, fd, ps, c1, c2, c3, c4⟩ := M.ex
  refine ⟨pe_meth0 ho.pe c1 c2 c3 hr c4 .nil pass0 ht, fun ρ z ee G H σ x Q k => ?_⟩
  obtain ⟨d1, e1, e3⟩ := Option.bind_eq_some_iff.mp ee
  refine ho.ev ρ d1 e1 G H σ x _ fun v G1 H1 f1 r1 => ?_
  unfold metDO at e3
  split at e3
  · split at e3
    · rename_i C ns ds hC
      obtain ⟨rfl, hm⟩ := hC
      obtain ⟨p, dx, us, rfl, h1, h2, h3⟩ := r1.un_obj
      refine ⟨p, dx, _, rfl, f1.gh _ _ h1, lookup_off hm, ?_⟩
      exact ⟨G1, [_], z, f1.gh, .cons r1 .nil, e3, fun q us G2 H2 f2 n1 n2 h l r => k q us G2 H2 (f1.trans f2) (f1.ne n1) n2 h l r⟩
    · cases e3
  · cases e3
theorem env0_own {n : Nat} {ds : List D} {i : Nat} {d : D} (h : (env0 n ds)[i]? = some (Sl.ow d)) : False := by
  unfold env0 at h
  rw [List.getElem?_append] at h
  split at h
  · rw [List.getElem?_map] at h
    cases e : ds[i]? with
    | none => rw [e] at h; cases h
    | some d => rw [e] at h; cases h
  · rw [List.getElem?_replicate] at h
    split at h <;> cases h
theorem ok_retO {P : Program} {w : World} {K : PySem.W.Frag} {mg : Str → Option Value} {base : Heap} {x qual : Str} {st : Stmt} {f : Addr} {fd : FuncData} {N ps : List Str} {k : Nat} {ψ : Env → Option (List D)} {e : Expr} {pos : Pos} (F : Fun K x qual st f fd) (S : FnScope N ps (defScope st)) (hB : defBody st = [.Return (some e) pos])
    (hb : ∀ (cdv : Value) (A : Around) (outer : List PySem.Env) (s : Shared) (H : Hp) (E : XK), Room k (A.deeper (envOfC qual (defScope st) s.heap.objs.size f cdv)) → ∃ t, OwD (cxOf CX0 P w K mg base N qual (defScope st) f cdv A outer s H E).nox e t ψ) :
    FnOk P w K mg base CX0 (k + 1) f fd ps (spO fun ds => if ds.length = ps.length then ψ (env0 N.length ds) else none) := by
  refine F.ok S (fun vs H Q E h => ?_) (fun cdv A outer s H vs Q E hr h => ?_)
  · obtain ⟨G, ds, d, x, r, e, _⟩ := h
    have e : (if ds.length = ps.length then ψ (env0 N.length ds) else none) = some d := e
    split at e
    · rename_i hl; rw [r.len, hl]
    · cases e
  · obtain ⟨G, ds, d, x, r, e, q⟩ := h
    have e : (if ds.length = ps.length then ψ (env0 N.length ds) else none) = some d := e
    obtain ⟨t, b⟩ := hb cdv A outer s H E hr
    refine ⟨tRet t, by rw [hB]; exact pss_one (ps_ret b.pe), ?_⟩
    split at e
    · exact b.ev _ d e G H _ (env0_ok x (N := N) r) _ fun p us G2 H2 f n1 n2 h l r => q p us G2 H2 f n1 n2 h l r
    · cases e
/-! ### making -/
def spI (C : Addr) (f : List D → Option (List Str × List D)) : Sp := fun vs H Q _ => ∃ (G : Hp) (ds : List D) (p dx : Addr) (us : List V) (ns : List Str) (es : List D), vs = .ref p :: us ∧ G p = none ∧ H p = some (.ins C dx []) ∧ Ex G H ∧ Reps G ds us ∧ f ds = some (ns, es) ∧
  ∀ G2 H2 dx2 ws, Ex G G2 → Ex G2 H2 → (∀ a o, H a = some o → a ≠ p → H2 a = some o) → (∀ a, H a ≠ none → G a = none → a ≠ p → G2 a = none) → G2 p = none → H2 p = some (.ins C dx2 (ns.zip ws)) → ns.length = es.length → Reps G2 es ws → Q .non H2
structure Mkr (P : Program) (w : World) (K : PySem.W.Frag) (mg : Str → Option Value) (base : Heap) (x : Str) (C : Addr) (k : Nat) (f : List D → Option (List Str × List D)) : Prop where
  ex : ∃ (a : Addr) (fd : FuncData) (ps : List Str), Mk K C a ∧ mg x = some (.ref C) ∧ FnOk P w K mg base CX0 k a fd ps (spI C f) ∧ Binds K fd ps []
def mkD (C : Addr) (f : List D → Option (List Str × List D)) : List D → Option D := fun ds => (f ds).map fun r => .obj C r.1 r.2
theorem pu_make {x : Str} {C : Addr} {k : Nat} {f : List D → Option (List Str × List D)} {p : Pos} {tr : TA} (h : Mkr X.prog X.w X.K X.mg X.base x C k f) (hr : Room (k + 1) X.A) (hg : Gl X x) (ha : ArD X (e :: es) tr ψ) (hdb : (x == ("__debug__" : Str)) = false := by decide)
    (he : starEach (e :: es) X.env = (false, eval e X.env) :: starEach es X.env := by rfl) (hpl : (backTo pos (starEach es X.env)).any (·.1) = false := by rfl) :
    PuD X (.Call (.Name x p) (e :: es) [] pos) (tMake C (spI C f) [] E0 tr) (app1 (mkD C f) ψ) := by
  obtain ⟨a, fd, ps, M, h1, F, h3⟩ := h.ex
  refine ⟨pe_make M F hr hg h1 h3 .nil pass0 ha.pa hdb he hpl, fun ρ d ee G H σ x Q k => ?_⟩
  obtain ⟨ds, e1, e2⟩ := Option.bind_eq_some_iff.mp ee
  obtain ⟨⟨ns, zs⟩, e3, rfl⟩ := Option.map_eq_some_iff.mp e2
  refine ha.ev ρ ds e1 G H σ x _ fun vs G1 H1 f1 r1 => fun y dx ny ndx nex => ?_
  have e5 : Ex H1 (upd (upd H1 dx (.own y)) y (.ins C dx [])) := (Ex.new ndx).trans (Ex.new (by rw [upd_ne (Ne.symm nex)]; exact ny))
  refine ⟨G1, ds, y, dx, vs, ns, zs, by rw [List.append_nil], f1.gh.back ny, upd_same, f1.gh.trans e5, r1, e3, fun G2 H2 dx2 ws g1 g2 g3 g4 g5 g6 g7 g8 => ⟨rfl, ?_⟩⟩
  have e6 : Ex H1 H2 := fun c o z => g3 c o (e5 c o z) (ne_of_none z ny)
  refine k (.ref y) (upd G2 y (.ins C dx2 (ns.zip ws))) H2 (f1.trans ⟨g1.trans (Ex.new g5), fun c o z => ?_, e6, fun c z1 z2 => ?_⟩) (.ob upd_same g7 (g8.mono (Ex.new g5)))
  · by_cases q : c = y
    · rw [q, upd_same] at z; cases z; rw [q]; exact g6
    · rw [upd_ne q] at z; exact g2 _ _ z
  · obtain ⟨o, ho⟩ := Option.ne_none_iff_exists'.mp z1
    have hc : c ≠ y := fun q => z1 (q ▸ ny)
    rw [upd_ne hc]
    exact g4 c (by rw [e5 c o ho]; exact fun q => by cases q) z2 hc
def envI (n : Nat) (C : Addr) (ds : List D) : Env := Sl.ow (.obj C [] []) :: env0 (n - 1) ds
def initF (n : Nat) (C : Addr) (Φ : Env → Option Out) : List D → Option (List Str × List D) := fun ds => (Φ (envI n C ds)).bind fun (o : Out) => match o with
  | .nx ρ2 => match (ρ2[0]? : Option Sl) with
    | some (Sl.ow (D.obj C' ns es)) => if C' = C then some (ns, es) else none
    | _ => none
  | _ => none
end
end L2.Tr

/-! Trees: __init__, own dicts, own things that are handed on. -/
namespace L2.Tr
open PySem PySem.Spec PyProof.Rows
section
variable {X : Cx} {e e2 o tg a b c : Expr} {es : List Expr} {t t' ta tb tc te : TE} {φ φ' φa φb φc : Env → Option D} {ψ : Env → Option (List D)} {pos : Pos} {Φ : Env → Option Out} {st : Stmt} {ts : TS}
theorem EnvOk.consO {G H : Hp} {σ : St} {ρ : Env} (x : EnvOk G H σ ρ) (no : ∀ (i : Nat) (d : D), ρ[i]? = some (Sl.ow d) → False) {p : Addr} {d : D} {ob : HO} (n : G p = none) (hp : H p = some ob) (r : Top G d ob) : EnvOk G H (some (.ref p) :: σ) (Sl.ow d :: ρ) := by
  refine ⟨x.gh, by rw [List.length_cons, List.length_cons, x.len], fun i e h => ?_, fun i e h => ?_, fun i j e f q h1 h2 h3 h4 => ?_⟩
  · cases i with
    | zero => cases h
    | succ i => exact x.pu i e (by simpa using h)
  · cases i with
    | zero => cases h; exact ⟨p, ob, rfl, n, hp, r⟩
    | succ i => exact (no i e (by simpa using h)).elim
  · cases i with
    | zero =>
      cases j with
      | zero => rfl
      | succ j => exact (no j f (by simpa using h2)).elim
    | succ i => exact (no i e (by simpa using h1)).elim
theorem ok_init {P : Program} {w : World} {K : PySem.W.Frag} {mg : Str → Option Value} {base : Heap} {x qual : Str} {params : Arguments} {body : List Stmt} {scope : Scope} {dvs : List V} {kws : List (Str × V)} {f : Addr} {fd : FuncData} {n0 : Str} {N ps : List Str} {k : Nat} {C : Addr} {Φ : Env → Option Out}
    (F : FunD K x qual params body scope dvs kws f fd) (S : FnScope (n0 :: N) ps scope)
    (hb : ∀ (cdv : Value) (A : Around) (outer : List PySem.Env) (s : Shared) (H : Hp) (E : XK), Room k (A.deeper (envOfC qual scope s.heap.objs.size f cdv)) → ∃ t, SsD (cxOf CX0 P w K mg base (n0 :: N) qual scope f cdv A outer s H E).nox body t Φ) :
    FnOk P w K mg base CX0 (k + 1) f fd ps (spI C fun ds => if ds.length + 1 = ps.length then initF (n0 :: N).length C Φ ds else none) := by
  refine F.ok S (fun vs H Q E h => ?_) (fun cdv A outer s H vs Q E hr h => ?_)
  · obtain ⟨G, ds, p, dx, us, ns, es, rfl, _, _, _, r, e, _⟩ := h
    have e : (if ds.length + 1 = ps.length then initF (n0 :: N).length C Φ ds else none) = some (ns, es) := e
    split at e
    · rename_i hl; rw [List.length_cons, r.len, hl]
    · cases e
  · obtain ⟨G, ds, p, dx, us, ns, es, rfl, np, hp, x, r, e, q⟩ := h
    have e : (if ds.length + 1 = ps.length then initF (n0 :: N).length C Φ ds else none) = some (ns, es) := e
    obtain ⟨t, b⟩ := hb cdv A outer s H E hr
    refine ⟨t, b.ps.nox, ?_⟩
    split at e
    · obtain ⟨o, e1, e2⟩ := Option.bind_eq_some_iff.mp e
      have x0 : EnvOk G H (start (n0 :: N) (.ref p :: us)) (envI (n0 :: N).length C ds) := by
        have h0 := (env0_ok x (N := N) r).consO (fun i d h => env0_own h) (d := .obj C [] []) np hp ⟨dx, [], rfl, rfl, .nil⟩
        have e3 : start (n0 :: N) (.ref p :: us) = some (.ref p) :: start N us := by
          unfold start
          rw [List.length_cons, List.length_cons, Nat.add_sub_add_right]
          rfl
        rw [e3]
        exact h0
      have own1 : ∀ a, Own (start (n0 :: N) (.ref p :: us)) (envI (n0 :: N).length C ds) a → a = p := fun a ⟨i, d, h1, h2⟩ => by
        cases i with
        | zero =>
          have : some (some (V.ref p)) = some (some (V.ref a)) := h2
          cases this
          rfl
        | succ i => exact (env0_own (show (env0 N.length ds)[i]? = some (Sl.ow d) from by simpa [envI] using h1)).elim
      refine b.ev _ o e1 G H _ x0 _ ?_
      cases o with
      | nx ρ2 =>
        dsimp only at e2
        split at e2
        · rename_i C' ns' es' h1
          split at e2
          · rename_i hC
            subst hC
            cases e2
            intro σ2 G2 H2 x2 f2
            obtain ⟨p2, ob, g1, g2, g3, dx2, ws, rfl, g4, g5⟩ := x2.ow 0 _ h1
            have hp2 : p2 = p := by
              have h0 := (f2.ob 0 _ _ _ h1).1
              rw [g1] at h0
              have h1 : some (some (V.ref p2)) = some (some (V.ref p)) := h0
              cases h1
              rfl
            subst hp2
            exact q G2 H2 dx2 ws f2.g x2.gh (fun a o h n => f2.h a o h fun z => n (own1 a z)) (fun a h1 h2 n => f2.nw a h1 h2 fun z => n (own1 a z)) g2 g3 g4 g5
          · cases e2
        · cases e2
      | rt d => cases e2
      | bk ρ2 => cases e2
      | ct ρ2 => cases e2
    · cases e
/-! ### an own thing is one no more -/
def frzE (j : Nat) (ρ : Env) : Option Env := match ρ[j]? with
  | some (.ow d) => some (ρ.set j (Sl.pu d))
  | _ => none
theorem frz_ok {G H : Hp} {σ : St} {ρ ρ2 : Env} {j : Nat} (x : EnvOk G H σ ρ) (h : frzE j ρ = some ρ2) : ∃ G2, EnvOk G2 H σ ρ2 ∧ FrS σ ρ G H σ ρ2 G2 H := by
  unfold frzE at h
  split at h
  · rename_i ds h1
    cases h
    obtain ⟨p, ob, h2, h3, h4, h5⟩ := x.ow j ds h1
    have hj : j < ρ.length := (List.getElem?_eq_some_iff.mp h1).1
    have g2 : Ex (upd G p ob) H := fun a o z => by
      by_cases q : a = p
      · rw [q, upd_same] at z; rw [q]; cases z; exact h4
      · rw [upd_ne q] at z; exact x.gh _ _ z
    have rp : Rep (upd G p ob) ds (.ref p) := h5.rep (Ex.new h3) upd_same
    have oth : ∀ {l : Nat} {s : Sl}, j ≠ l → (ρ.set j (Sl.pu ds))[l]? = some s → ρ[l]? = some s := fun {l s} n e => by rwa [List.getElem?_set_ne n] at e
    have ne : ∀ {l : Nat} {es : D}, (ρ.set j (Sl.pu ds))[l]? = some (Sl.ow es) → j ≠ l := fun {l es} h e => by
      subst e
      rw [List.getElem?_set_self hj] at h
      cases h
    have x2 : EnvOk (upd G p ob) H σ (ρ.set j (Sl.pu ds)) := by
      refine ⟨g2, by rw [List.length_set]; exact x.len, fun l e h => ?_, fun l es h => ?_, fun l m es fs q a1 a2 a3 a4 => x.inj l m es fs q (oth (ne a1) a1) (oth (ne a2) a2) a3 a4⟩
      · by_cases n : j = l
        · subst n
          rw [List.getElem?_set_self hj] at h
          cases h
          exact ⟨_, h2, rp⟩
        · obtain ⟨v, b1, b2⟩ := x.pu l e (oth n h)
          exact ⟨v, b1, b2.mono (Ex.new h3)⟩
      · obtain ⟨q, o2, b1, b2, b3, b4⟩ := x.ow l es (oth (ne h) h)
        have : q ≠ p := fun e => ne h (x.inj j l ds es p h1 (oth (ne h) h) h2 (e ▸ b1))
        exact ⟨q, o2, b1, by rw [upd_ne this]; exact b2, b3, b4.mono (Ex.new h3)⟩
    have own : Own σ ρ p := ⟨j, ds, h1, h2⟩
    refine ⟨_, x2, Ex.new h3, fun a o z _ => z, fun a z1 z2 z3 => ?_, fun a z => ?_, obk_same fun _ _ _ z => by cases z⟩
    · have : a ≠ p := fun q => z3 (q ▸ own)
      rw [upd_ne this]; exact z2
    · obtain ⟨l, es, b1, b2⟩ := z
      exact .inl ⟨l, es, oth (ne b1) b1, b2⟩
  · cases h
def frzF (j : Nat) (Φ : Env → Option Out) : Env → Option Out := fun ρ => (frzE j ρ).bind Φ
theorem sd_frz (j : Nat) (h : StD X st ts Φ) : StD X st ts (frzF j Φ) := ⟨h.ps, fun ρ o ee G H σ x De k => by
  obtain ⟨ρ2, e1, e2⟩ := Option.bind_eq_some_iff.mp ee
  obtain ⟨G2, x2, f2⟩ := frz_ok x e1
  refine h.ev ρ2 o e2 G2 H σ x2 De ?_
  cases o with
  | nx ρ3 => exact fun σ3 G3 H3 x3 f3 => k σ3 G3 H3 x3 (f2.trans f3)
  | bk ρ3 => exact fun σ3 G3 H3 x3 f3 => k σ3 G3 H3 x3 (f2.trans f3)
  | ct ρ3 => exact fun σ3 G3 H3 x3 f3 => k σ3 G3 H3 x3 (f2.trans f3)
  | rt d => exact fun v G3 H3 f3 r3 => k v G3 H3 (f2.transR f3) r3⟩
/-! ### own dicts -/
def dnewF (i : Nat) : Env → Option Out := fun ρ => some (.nx (ρ.set i (Sl.ow (.dct [] []))))
theorem sd_dnew {i : Nat} {x : Str} {pos' pos2 : Pos} (hp : PE X (.Dict [] [] pos2) tDNewK → PS X (.Assign [.Name x pos'] (.Dict [] [] pos2) pos) (tAsg tDNewK (gName i))) : StD X (.Assign [.Name x pos'] (.Dict [] [] pos2) pos) (tAsg tDNewK (gName i)) (dnewF i) := ⟨hp pe_dnewK, fun ρ o ee G H σ x De k => by
  cases ee
  intro p np
  have f1 : Fr G H G (upd H p (.dK [])) := .tmp x.gh np
  refine k _ G _ ((x.mono f1).setO i (x.gh.back np) upd_same ⟨[], rfl, rfl, by decide, .nil⟩ fun j es _ h1 h2 => own_free x np ⟨j, es, h1, h2⟩) ⟨f1.g, fun a o h _ => f1.h a o h, fun a h1 h2 _ => f1.nw a h1 h2, fun a z => ?_, obk_set fun _ _ _ z => by cases z⟩
  rcases own_setO x.len z with q | q
  · exact .inl q
  · rw [q]; exact .inr np⟩
def memK (k : Key) (ks : List Key) : Bool := ks.any fun x => decide (x = k)
theorem memK_iff {k : Key} {ks : List Key} : memK k ks = true ↔ k ∈ ks := by
  unfold memK
  rw [List.any_eq_true]
  exact ⟨fun ⟨x, h1, h2⟩ => (of_decide_eq_true h2) ▸ h1, fun h => ⟨k, h, decide_eq_true rfl⟩⟩
/-- d[k] = v, k new -/
def dputF (i : Nat) (φk φv : Env → Option D) : Env → Option Out := fun ρ => match ρ[i]? with
  | some (.ow (.dct ks ds)) => (φv ρ).bind fun d => ((φk ρ).bind keyD).bind fun k => if memK k ks = false ∧ ds.length < 1000 then some (.nx (ρ.set i (Sl.ow (.dct (ks ++ [k]) (ds ++ [d]))))) else none
  | _ => none
theorem putK_zip {k : Key} {v : V} {ks : List Key} {us : List V} (h : memK k ks = false) (hl : ks.length = us.length) : putK (ks.zip us) k v = (ks ++ [k]).zip (us ++ [v]) := by
  unfold putK
  rw [if_neg, List.zip_append hl]
  · rfl
  · intro z
    obtain ⟨p, hp, hk⟩ := List.any_eq_true.mp z
    exact (Bool.eq_false_iff.mp h) (memK_iff.mpr ((of_decide_eq_true hk) ▸ (List.of_mem_zip hp).1))
theorem sd_dput {i : Nat} {ik : Expr} {pos' : Pos} (hu : X.A.units + 1 < cLine) (ho : PE X o (tVar i)) (hk : PuD X ik ta φa) (hv : PuD X e t φ) (hs : swapsWith e (some (.Subscript o ik pos')) pos.line X.env = pure false := by rfl) :
    StD X (.Assign [.Subscript o ik pos'] e pos) (sDPut (tVar i) ta t) (dputF i φa φ) := ⟨ps_dput hu ho hk.pe hv.pe hs, fun ρ out ee G H σ x De k => by
  unfold dputF at ee
  split at ee
  · rename_i ks ds h1
    obtain ⟨d, e1, ee⟩ := Option.bind_eq_some_iff.mp ee
    obtain ⟨kk, e2, ee⟩ := Option.bind_eq_some_iff.mp ee
    obtain ⟨dk, e3, e4⟩ := Option.bind_eq_some_iff.mp e2
    split at ee
    · rename_i hl
      cases ee
      obtain ⟨p, ob, h2, h3, h4, us, rfl, h5, h6, h7⟩ := x.ow i _ h1
      refine hv.ev ρ d e1 G H σ x _ fun v G1 H1 f1 r1 => ⟨_, h2, ?_⟩
      refine hk.ev ρ dk e3 G1 H1 σ (x.mono f1) _ fun vk G2 H2 f2 r2 => ?_
      obtain rfl := keyD_kV (G := G2) (H := H2) e4 (.inl r2)
      have f := f1.trans f2
      have hlu : ks.length = us.length := by rw [h5, h7.len]
      refine ⟨p, _, rfl, DPut.k (f.h _ _ h4) ?_, ?_⟩
      · rw [List.length_zip, ← hlu, Nat.min_self, h5, sizeLine_eq]; omega
      · rw [putK_zip hl.1 hlu]
        have g := grow_ok (x.mono f) (fun _ _ _ z => by cases z) (ys := .dct (ks ++ [kk]) (ds ++ [d])) (ob := .dK ((ks ++ [kk]).zip (us ++ [v]))) h1 h2 ⟨_, rfl, by rw [List.length_append, List.length_append, h5]; rfl, by rw [List.length_append]; have : Lim = 5000 := rfl; have : [d].length = 1 := rfl; omega, (h7.mono f.g).app (.cons (r1.mono f2.g) .nil)⟩
        exact k σ G2 _ g.1 ((FrS.of f).trans g.2)
    · cases ee
  · cases ee⟩
/-- k in d -/
def dinB (neg : Bool) : D → D → Option Bool := fun y x => match x with
  | .dct ks _ => (keyD y).map fun k => xor neg (memK k ks)
  | _ => none
theorem valV_mem {k : Key} : ∀ {ks : List Key} {us : List V}, ks.length = us.length → (valV (ks.zip us) k).isSome = memK k ks
  | [], [], _ => rfl
  | x :: ks, u :: us, h => by
    have ih := valV_mem (k := k) (ks := ks) (us := us) (by simpa using h)
    rw [List.zip_cons_cons]
    unfold memK at ih ⊢
    rw [List.any_cons]
    by_cases e : x = k
    · rw [valV_pos e, decide_eq_true e]; rfl
    · rw [valV_neg e, ih, decide_eq_false e]; rfl
  | [], _ :: _, h => by simp at h
  | _ :: _, [], h => by simp at h
theorem te_din (hu : X.A.units + 1 < cLine) (ha : ViD X a ta φa) (hb : ViD X b tb φb) (hm : behindInMarks .In b = false := by with_unfolding_all rfl) : TeD X (.Compare a [.In] [b] pos) (tB (tDIn ta tb)) (bin2 (dinB false) φa φb) := ⟨pt_cmp (pc_din hu ha.pe hb.pe) hm, fun ρ k0 ee G H σ x Q k => by
  obtain ⟨d1, d2, e1, e2, e3⟩ := bin2_un ee
  refine ha.ev ρ d1 e1 G H σ x _ fun v1 G1 H1 f1 r1 => ?_
  refine hb.ev ρ d2 e2 G1 H1 σ (x.mono f1) _ fun v2 G2 H2 f2 r2 => ?_
  unfold dinB at e3
  split at e3
  · rename_i ks ds
    obtain ⟨kk, h1, rfl⟩ := Option.map_eq_some_iff.mp e3
    obtain ⟨p, us, rfl, hp, hl, _, rs⟩ := r2.dct f2.gh
    obtain rfl := keyD_kV h1 (r1.mono f2)
    refine ⟨p, _, rfl, DGet.k hp, _, rfl, ?_⟩
    rw [valV_mem (by rw [hl, rs.len])]
    have := k G2 H2 (f1.trans f2)
    rwa [Bool.false_xor] at this
  · cases e3⟩
theorem pu_din (hu : X.A.units + 1 < cLine) (ha : ViD X a ta φa) (hb : ViD X b tb φb) (hm : behindInMarks .In b = false := by with_unfolding_all rfl) : PuD X (.Compare a [.In] [b] pos) (tDIn ta tb) (fun ρ => (bin2 (dinB false) φa φb ρ).map bD) := ⟨pe_cmp (pc_din hu ha.pe hb.pe) hm, fun ρ k0 ee G H σ x Q k => by
  obtain ⟨kb, e0, rfl⟩ := Option.map_eq_some_iff.mp ee
  obtain ⟨d1, d2, e1, e2, e3⟩ := bin2_un e0
  refine ha.ev ρ d1 e1 G H σ x _ fun v1 G1 H1 f1 r1 => ?_
  refine hb.ev ρ d2 e2 G1 H1 σ (x.mono f1) _ fun v2 G2 H2 f2 r2 => ?_
  unfold dinB at e3
  split at e3
  · rename_i ks ds
    obtain ⟨kk, h1, rfl⟩ := Option.map_eq_some_iff.mp e3
    obtain ⟨p, us, rfl, hp, hl, _, rs⟩ := r2.dct f2.gh
    obtain rfl := keyD_kV h1 (r1.mono f2)
    refine ⟨p, _, rfl, DGet.k hp, ?_⟩
    rw [valV_mem (by rw [hl, rs.len])]
    have := k _ G2 H2 (f1.trans f2) (.lf rfl)
    rwa [Bool.false_xor] at this
  · cases e3⟩
/-! ### in, by an own __contains__ -/
structure Con (P : Program) (w : World) (K : PySem.W.Frag) (mg : Str → Option Value) (base : Heap) (C : Addr) (k : Nat) (f : List D → Option D) : Prop where
  ex : ∃ (a : Addr) (fd : FuncData) (ps : List Str), L2.Vy.Own1 K C a "__contains__" ∧ FnOk P w K mg base CX0 k a fd ps (spP f) ∧ Binds K fd ps []
def conD (neg : Bool) (C0 : Addr) (f : List D → Option D) : D → D → Option D := fun x y => match y with
  | .obj C _ _ => if C = C0 then ((f [y, x]).bind asB).map fun b => bD (neg != b) else none
  | _ => none
theorem r2_con {neg : Bool} {C0 : Addr} {f : List D → Option D} : R2D (L2.Vy.rInO C0 (spP f) neg) (conD neg C0 f) := fun d1 d2 z e G H v1 v2 x r1 r2 Q k => by
  unfold conD at e
  split at e
  · rename_i C ns ds
    split at e
    · rename_i hC
      subst hC
      obtain ⟨b, e1, rfl⟩ := Option.map_eq_some_iff.mp e
      obtain ⟨db, e2, e3⟩ := Option.bind_eq_some_iff.mp e1
      obtain ⟨p, dx, us, rfl, h1, h2, h3⟩ := r2.obj x
      refine ⟨p, dx, _, rfl, h1, H, _, db, Ex.refl _, .cons (r2.rep x) (.cons (r1.rep x) .nil), e2, fun v G2 H2 f2 r => ?_⟩
      unfold asB at e3
      split at e3
      · cases e3
        obtain ⟨rfl, _⟩ := r.un_lf
        exact ⟨b, rfl, k _ G H2 (.of x (f2.g.trans f2.gh)) (.lf rfl)⟩
      · cases e3
    · cases e
  · cases e
end
end L2.Tr

/-! Trees: == and != by an own __eq__. -/
namespace OwC
open PySem PySem.Spec PyProof.Rows PySem.SeqAt PySem.W
section
variable {M : Model} {prog : Program} {w : World} {A : Around} {E : Value → Shared → Prop} {s : Shared} {K : PySem.W.Frag} {x C f : Addr} {ox : Obj} {od : Option Obj} {b tb : Value} {op : CmpOp}
theorem cmp_one {Q : Value → Shared → Prop} (hu : A.units < cLine) (X : K.In s.heap) (I : InstAt s.heap x ox C od) (hb : Looks (model prog w) s.heap (typeOf b) tb) (hn : notFirst K C tb = true)
    (one : wpAny (model prog w) A (tryCompare (.ref x) (cmpInfo op).2.1 b) (fun r s' => ∃ v, r = some v ∧ Q v s') E s) : wpAny (model prog w) A (richCompare op (.ref x) b) Q E s := by
  unfold richCompare
  simp only [oneThing_ref]
  refine wpAny_holding (wpAny_bind (wpAny_cRoomFor hu ?_))
  refine wpAny_bind (I.type.here (wpAny_bind (hb.here ?_)))
  split
  · rename_i q
    have e : subIn K tb (.ref C) = some false := by
      rcases Bool.or_eq_true_iff.mp hn with e | e
      · rw [beq_iff_eq.mp e] at q; simp at q
      · exact beq_iff_eq.mp e
    refine wpAny_bind ((looks_subIn X e).here ?_)
    simp only [Bool.false_eq_true, if_false]
    refine wpAny_bind (wpAny_mono one (fun r s' z => ?_) fun _ _ e => e)
    obtain ⟨v, rfl, hq⟩ := z
    exact wpAny_pure hq
  · refine wpAny_bind (wpAny_pure ?_)
    simp only [Bool.false_eq_true, if_false]
    refine wpAny_bind (wpAny_mono one (fun r s' z => ?_) fun _ _ e => e)
    obtain ⟨v, rfl, hq⟩ := z
    exact wpAny_pure hq
theorem ifBound_objNe {args : List Value} {Q : Option Value → Shared → Prop} (X : K.In s.heap) (I : PySem.W.InstAt s.heap x ox C od) (hs : PySem.W.findIn K (.ref C) "__ne__" = some (some (.builtin "object.__ne__")))
    (h : wpAny M A (call (.builtin "object.__ne__") (.ref x :: args)) (fun v => Q (some v)) E s) : wpAny M A (callSpecialIfBound? (.ref x) "__ne__" args) Q E s := by
  simp only [callSpecialIfBound?, bindSpecialIfBound?]
  refine wpAny_holding (wpAny_bind (wpAny_bind (wpAny_bind (I.type.here ((PySem.W.looks_findIn X hs).here ?_)))))
  refine wpAny_bind (wpAny_askSetting (wpAny_ite ?_))
  have fin : wpAny M A (call (.builtin "object.__ne__") ([.ref x] ++ args) >>= fun v => pure (some v)) Q E s := wpAny_bind (wpAny_mono h (fun v s' h' => wpAny_pure h') fun _ _ h' => h')
  split
  · exact wpAny_bind (wpAny_of_eq (F.cmp_object.ne.bind _) (wpAny_pure (by exact fin)))
  · exact wpAny_tryCatch (wpAny_bind (wpAny_of_eq (F.cmp_object.ne.bind _) (wpAny_pure (by exact fin))))
theorem entry_ne {Q : Fin → Shared → Prop} (hu : A.units < cLine) (X : K.In s.heap) (I : PySem.W.InstAt s.heap x ox C od) (hs : PySem.W.findIn K (.ref C) "__eq__" = some (some (.ref f))) (hf : PySem.W.isFn K (.ref f) = true)
    (h : wpAny M A (call (.ref f) [.ref x, b]) (fun v s' => ∃ k, v = .bool k ∧ Q (.done (.ret (.bool (!k)))) s') E s) : wpAny M A (Builtin.«object.__ne__» ⟨[.ref x, b], []⟩) Q E s := by
  unfold Builtin.«object.__ne__»
  repeat (first
    | with_reducible refine wpAny_cRoomFor hu ?_
    | (refine wpAny_bind (m := callSpecialIfBound? (.ref x) (Str.ofString "__eq__") [b])
        (ifBound_K X I hs hf (wpAny_mono h (fun r s' hr => by
          obtain ⟨k, rfl, hq⟩ := hr
          repeat (first | exact hq | exact wpAny_pure hq | exact wpAny_truthy_bool hq | (refine wpAny_bind (m := truthy (.bool _)) (wpAny_truthy_bool ?_)) | wp_step)) fun _ _ e => e)))
    | wp_step)
theorem call_objNe {Q : Value → Shared → Prop} (hu : A.in1.units < cLine) (X : K.In s.heap) (I : PySem.W.InstAt s.heap x ox C od) (hm : PySem.W.mroIn K C (.type "object") = some true) (hs : PySem.W.findIn K (.ref C) "__eq__" = some (some (.ref f))) (hf : PySem.W.isFn K (.ref f) = true)
    (h : wpAny (model prog w) A.in1 (call (.ref f) [.ref x, b]) (fun v s' => ∃ k, v = .bool k ∧ Q (.bool (!k)) s') E s) : wpAny (model prog w) A (call (.builtin "object.__ne__") [.ref x, b]) Q E s :=
  wpAny_call (codeAny_call_builtin F.cmp_object.ne.plain F.cmpEntry_ne (PySem.W.check_slot F.cmpKind_ne F.cmpSplit_ne (I.type.andThen (PySem.W.looks_mroIn X hm)) (F.cmpArgs_ne _ _) (entry_ne hu X I hs hf (wpAny_mono h (fun v s' ⟨k, e, q⟩ => ⟨k, e, q⟩) fun _ _ e => e))))
theorem ne_K {Q : Value → Shared → Prop} (hu : A.in1.units < cLine) (hu0 : A.units < cLine) (X : K.In s.heap) (I : InstAt s.heap x ox C od) (hb : Looks (model prog w) s.heap (typeOf b) tb) (hn : notFirst K C tb = true)
    (hm : PySem.W.mroIn K C (.type "object") = some true) (hne : PySem.W.findIn K (.ref C) "__ne__" = some (some (.builtin "object.__ne__"))) (hs : PySem.W.findIn K (.ref C) "__eq__" = some (some (.ref f))) (hf : PySem.W.isFn K (.ref f) = true)
    (h : wpAny (model prog w) A.in1 (call (.ref f) [.ref x, b]) (fun v s' => ∃ k, v = .bool k ∧ Q (.bool (!k)) s') E s) : wpAny (model prog w) A (richCompare .NotEq (.ref x) b) Q E s := by
  refine cmp_one (op := .NotEq) hu0 X I hb hn ?_
  unfold tryCompare
  refine wpAny_bind (ifBound_objNe X I hne (call_objNe hu X I hm hs hf (wpAny_mono h (fun v s' ⟨k, e, q⟩ => ⟨k, e, ?_⟩) fun _ _ e => e)))
  exact wpAny_pure ⟨_, rfl, q⟩
end
end OwC

namespace L2.Tr
open PySem PySem.Spec PyProof.Rows
section
variable {X : Cx} {K : PySem.W.Frag} {C f : Addr} {CX : CXT} {k : Nat} {fd : FuncData} {ps : List Str} {sp : Sp}
structure EqC (K : PySem.W.Frag) (C a : Addr) : Prop where
  eq : PySem.W.findIn K (.ref C) "__eq__" = some (some (.ref a))
  fn : PySem.W.isFn K (.ref a) = true
  ne : PySem.W.findIn K (.ref C) "__ne__" = some (some (.builtin "object.__ne__"))
  ob : PySem.W.mroIn K C (.type "object") = some true
def Other (K : PySem.W.Frag) (C : Addr) (H : Hp) (y : V) : Prop := (∃ T, TyX K H y (.type T) ∧ PySem.W.notFirst K C (.type T) = true) ∨ ∃ b dy gs, y = .ref b ∧ H b = some (.ins C dy gs)
def rEqO (K : PySem.W.Frag) (C : Addr) (sp : Sp) (neg : Bool) : R2 := fun x y H Q => ∃ a dx fs, x = .ref a ∧ H a = some (.ins C dx fs) ∧ Other K C H y ∧ sp [x, y] H (fun v H' => ∃ b : Bool, v = .bl b ∧ Q (.bl (xor neg b)) H') E0
theorem other_looks {pins : List (Addr × Obj)} {σ : St} {H : Hp} {s : Shared} (I : Inv X pins σ H s) {y : V} {u : Value} (ry : RelV y u) (h : Other X.K C H y) : ∃ tb, PySem.W.Looks (model X.prog X.w) s.heap (typeOf u) tb ∧ PySem.W.notFirst X.K C tb = true := by
  rcases h with ⟨T, ty, hn⟩ | ⟨b, dy, gs, rfl, hb⟩
  · obtain ⟨P, kx, hP, _⟩ := kit_of I ry ty
    exact ⟨_, kx.ty _ _ I.kIn hP, hn⟩
  · obtain rfl : u = Value.ref b := ry
    obtain ⟨mB, J, _⟩ := ins_get I.hok hb
    obtain ⟨od, J, _⟩ := J.look
    exact ⟨.ref C, J.type, by simp [PySem.W.notFirst]⟩
theorem op_eqO (F : FnOk X.prog X.w X.K X.mg X.base CX0 k f fd ps sp) (hr : Room k X.A) (O : EqC X.K C f) (hb : Binds X.K fd ps []) : OpR X (compareOp .Eq) (rEqO X.K C sp false) := by
  intro pins s σ H x y v u Q I rx ry h
  obtain ⟨a, dx, fs, rfl, ha, ho, q⟩ := h
  obtain rfl : v = Value.ref a := rx
  obtain ⟨mA, J, _⟩ := ins_get I.hok ha
  obtain ⟨od, J, _⟩ := J.look
  obtain ⟨m, fr⟩ := I.fr
  obtain ⟨tb, lk, hn⟩ := other_looks I ry ho
  show wpAny _ _ (richCompare .Eq (.ref a) u) _ _ _
  refine PySem.W.cmp_K (op := .Eq) hr.units0 fr I.ok.mod.kin J lk hn O.eq O.fn ?_
  refine thn (run_fn (dvs := []) (ds := []) F hr hb .nil pass0 I (show Vals [V.ref a, y] [Value.ref a, u] from .cons (show RelV (V.ref a) (Value.ref a) from rfl) (.cons ry .nil)) q) fun u' s1 hq => ?_
  obtain ⟨z, H', I', rz, b, ez, hq⟩ := hq
  subst ez
  obtain rfl : u' = Value.bool b := rz
  exact ⟨.bl b, H', I', rfl, by rwa [Bool.false_xor] at hq⟩
theorem op_neO (F : FnOk X.prog X.w X.K X.mg X.base CX0 k f fd ps sp) (hr : Room (k + 1) X.A) (O : EqC X.K C f) (hb : Binds X.K fd ps []) : OpR X (compareOp .NotEq) (rEqO X.K C sp true) := by
  intro pins s σ H x y v u Q I rx ry h
  obtain ⟨a, dx, fs, rfl, ha, ho, q⟩ := h
  obtain rfl : v = Value.ref a := rx
  obtain ⟨mA, J, _⟩ := ins_get I.hok ha
  obtain ⟨od, J, _⟩ := J.look
  obtain ⟨tb, lk, hn⟩ := other_looks I ry ho
  show wpAny _ _ (richCompare .NotEq (.ref a) u) _ _ _
  refine OwC.ne_K hr.in1.units0 hr.units0 I.kIn J lk hn O.ob O.ne O.eq O.fn ?_
  have hl := F.len _ _ _ _ q
  have r2 : Vals [V.ref a, y] [Value.ref a, u] := .cons (show RelV (V.ref a) (Value.ref a) from rfl) (.cons ry .nil)
  refine wpAny_call (codeAny_mono (F.run X.A.in1 X.stack s H ⟨[.ref a, u], []⟩ [.ref a, u] [.ref a, y] _ E0 hr.in1 I.env0.in1 (by
    have := hb s [.ref a, u] I.kIn (by simpa using hl)
    simpa using this) r2 q) fun r s' hq => ?_)
  cases r with
  | error e => exact (show False from hq).elim
  | ok fl =>
    cases fl with
    | ret w' =>
      obtain ⟨z, H', I', rz, b, ez, hq2⟩ := I.after hq
      subst ez
      obtain rfl : w' = Value.bool b := rz
      exact ⟨b, rfl, .bl (!b), H', I', rfl, by rwa [Bool.true_xor] at hq2⟩
    | next => exact False.elim hq
    | brk => exact False.elim hq
    | cont => exact False.elim hq
theorem notFirst_ty {d : D} {s : String} (h : tyName d = some s) : PySem.W.notFirst K C (.type s) = true := by
  have key : ∀ (s : String) (l : List String), fastBuiltinMro s = some (l.map Value.type) → PySem.W.notFirst K C (.type s) = true := fun s l e => by
    unfold PySem.W.notFirst
    rw [Bool.or_eq_true]
    right
    show ((fastBuiltinMro s).map (·.contains (.ref C)) == some false) = true
    rw [e]
    have : (l.map Value.type).contains (Value.ref C) = false := by
      rw [List.contains_eq_any_beq]
      refine List.any_eq_false.mpr fun v hv => ?_
      obtain ⟨t, _, rfl⟩ := List.mem_map.mp hv
      simp
    rw [Option.map_some, this]
    rfl
  unfold tyName at h
  split at h <;> cases h
  · exact key "NoneType" ["NoneType", "object"] (by decide +kernel)
  · exact key "bool" ["bool", "int", "object"] (by decide +kernel)
  · exact key "int" ["int", "object"] (by decide +kernel)
  · exact key "str" ["str", "object"] (by decide +kernel)
  · exact key "list" ["list", "object"] (by decide +kernel)
  · exact key "tuple" ["tuple", "object"] (by decide +kernel)
  · exact key "dict" ["dict", "object"] (by decide +kernel)
def okOther (C0 : Addr) : D → Bool
  | .obj C _ _ => decide (C = C0)
  | d => (tyName d).isSome
theorem other_ok {C0 : Addr} {d : D} (h : okOther C0 d = true) {H : Hp} {v : V} (r : Rep H d v) : Other K C0 H v := by
  have fin : (tyName d).isSome = true → Other K C0 H v := fun h => by
    obtain ⟨s, hs⟩ := Option.isSome_iff_exists.mp h
    exact .inl ⟨s, Tr.ty_of hs r, notFirst_ty hs⟩
  cases d with
  | obj C ns ds =>
    have hC : C = C0 := of_decide_eq_true h
    subst hC
    obtain ⟨b, dy, us, rfl, h1, _⟩ := r.un_obj
    exact .inr ⟨b, dy, _, rfl, h1⟩
  | leaf v => exact fin h
  | seq b ds => exact fin h
  | dct ks ds => exact fin h
  | frz ks ds => exact fin h
structure Eqr (P : Program) (w : World) (K : PySem.W.Frag) (mg : Str → Option Value) (base : Heap) (C : Addr) (k : Nat) (f : List D → Option D) : Prop where
  ex : ∃ (a : Addr) (fd : FuncData) (ps : List Str), EqC K C a ∧ FnOk P w K mg base CX0 k a fd ps (spP f) ∧ Binds K fd ps []
theorem eqr_eq {C0 : Addr} {g : List D → Option D} (h : Eqr X.prog X.w X.K X.mg X.base C0 k g) (hr : Room k X.A) : OpR X (compareOp .Eq) (rEqO X.K C0 (spP g) false) := by
  obtain ⟨a, fd, ps, h1, h2, h3⟩ := h.ex
  exact op_eqO h2 hr h1 h3
theorem eqr_ne {C0 : Addr} {g : List D → Option D} (h : Eqr X.prog X.w X.K X.mg X.base C0 k g) (hr : Room (k + 1) X.A) : OpR X (compareOp .NotEq) (rEqO X.K C0 (spP g) true) := by
  obtain ⟨a, fd, ps, h1, h2, h3⟩ := h.ex
  exact op_neO h2 hr h1 h3
def eqOD (neg : Bool) (C0 : Addr) (g : List D → Option D) : D → D → Option D := fun x y => match x with
  | .obj C _ _ => if C = C0 ∧ okOther C0 y = true then ((g [x, y]).bind asB).map fun b => bD (xor neg b) else none
  | _ => none
theorem r2_eqO {neg : Bool} {C0 : Addr} {g : List D → Option D} : R2D (rEqO K C0 (spP g) neg) (eqOD neg C0 g) := fun d1 d2 z e G H v1 v2 x r1 r2 Q k => by
  unfold eqOD at e
  split at e
  · rename_i C ns ds
    split at e
    · rename_i hC
      obtain ⟨rfl, ho⟩ := hC
      obtain ⟨b, e1, rfl⟩ := Option.map_eq_some_iff.mp e
      obtain ⟨db, e2, e3⟩ := Option.bind_eq_some_iff.mp e1
      have rr := r1.rep x
      obtain ⟨p, dx, us, rfl, h1, h2, h3⟩ := r1.obj x
      refine ⟨p, dx, _, rfl, h1, other_ok ho (r2.rep x), H, _, db, Ex.refl _, .cons rr (.cons (r2.rep x) .nil), e2, fun v G2 H2 f2 r => ?_⟩
      unfold asB at e3
      split at e3
      · cases e3
        obtain ⟨rfl, _⟩ := r.un_lf
        exact ⟨b, rfl, k _ G H2 (.of x (f2.g.trans f2.gh)) (.lf rfl)⟩
      · cases e3
    · cases e
  · cases e
end
end L2.Tr

namespace Vs
open PySem PySem.Spec PyProof.Rows SS
/-- which of the first i texts stand there -/
abbrev seen (xs : List Str) (i : Nat) : Str → Bool := fun y => (xs.take i).any (· == y)
/-- how many different ones -/
def dcn (xs : List Str) : Nat → Nat
  | 0 => 0
  | i + 1 => if seen xs i (xs.getD i Str.empty) = true then dcn xs i else dcn xs i + 1
theorem dcn_le (xs : List Str) : ∀ i, dcn xs i ≤ i
  | 0 => Nat.le_refl _
  | i + 1 => by
    have := dcn_le xs i
    unfold dcn
    split <;> omega
theorem getD_at {xs : List Str} {i : Nat} (h : i < xs.length) : xs[i]? = some (xs.getD i Str.empty) := by
  rw [List.getD_eq_getElem?_getD, List.getElem?_eq_getElem h]
  rfl
theorem take_one : ∀ {l : List Str} {i : Nat} {x : Str}, l[i]? = some x → l.take (i + 1) = l.take i ++ [x]
  | [], i, x, h => by simp at h
  | a :: l, 0, x, h => by
    have e : a = x := Option.some.inj h
    rw [e]; rfl
  | a :: l, i + 1, x, h => by
    have ih := take_one (l := l) (i := i) (x := x) h
    rw [List.take_succ_cons, ih]; rfl
theorem seen_next {xs : List Str} {i : Nat} (h : i < xs.length) (y : Str) : seen xs (i + 1) y = (seen xs i y || decide (y = xs.getD i Str.empty)) := by
  unfold seen
  rw [take_one (getD_at h), List.any_append]
  congr 1
  by_cases e : y = xs.getD i Str.empty
  · rw [decide_eq_true e, e]; simp
  · rw [decide_eq_false e]
    have : (xs.getD i Str.empty == y) = false := by simpa using fun z => e z.symm
    simp only [List.any_cons, List.any_nil, Bool.or_false]
    exact this
section
variable {prog : Program} {w : World} {A : Around} {R : Result → Shared → Prop} {J : Addr} {fp wr : List Addr} {G : Array GenState → Array GenState → Prop} {n : Nat} {Pi : Nat → Value → Prop} {St : Nat → Shared → Prop}
theorem fill (W : WalksS prog w A.in1 J fp wr G n Pi St) (a : Addr) (na : a ∉ fp) (xs : List Str) (hz : xs.length = n) (hb : n + 1 < scanBound) (hv : ∀ i v, Pi i v → ∃ t, v = .str (xs.getD i Str.empty) t) :
    ∀ (k i : Nat) (s : Shared), n - i = k → i ≤ n → St i s → s.heap.SetOf (PySem.strKind prog w) a (seen xs i) (dcn xs i) →
      (∀ s', Moved (a :: wr) G s s' → s'.heap.SetOf (PySem.strKind prog w) a (seen xs n) (dcn xs n) → R (.ok (.ret .none)) s') → codeAny (model prog w) A (.builtin "set.update.loop" ⟨[.ref a, .ref J], []⟩) R s := by
  have nw : a ∉ wr := fun q => na (W.sub _ q)
  have up : ∀ b ∈ wr, b ∈ a :: wr := fun b q => List.mem_cons_of_mem _ q
  intro k
  induction k with
  | zero =>
    intro i s hk hi st gS hR
    obtain rfl : i = n := by omega
    refine codeAny_builtin PyProof.Rows.F.entry_set_update_loop ?_
    rw [Around.under_plainId PyProof.Rows.F.plain_set_update_loop _]
    show wpAny _ A.in1 (pyNext (.ref J) >>= _) _ _ s
    refine wpAny_bind (W.done s _ _ st fun s' mv => ?_)
    show wpAny _ A.in1 (ret Value.none) _ _ s'
    obtain ⟨o, es, ep, t, ho, r⟩ := gS
    exact wpAny_pure (hR s' (mv.mono up) ⟨o, es, ep, t, mv.heap a _ nw ho, r⟩)
  | succ k ih =>
    intro i s hk hi st gS hR
    have lt : i < n := by omega
    refine codeAny_builtin PyProof.Rows.F.entry_set_update_loop ?_
    rw [Around.under_plainId PyProof.Rows.F.plain_set_update_loop _]
    show wpAny _ A.in1 (pyNext (.ref J) >>= _) _ _ s
    refine wpAny_bind (W.item i s _ _ lt st fun v s' pv st' mv => ?_)
    obtain ⟨t, rfl⟩ := hv i v pv
    have gS1 : s'.heap.SetOf (PySem.strKind prog w) a (seen xs i) (dcn xs i) := by
      obtain ⟨o, es, ep, tb, ho, r⟩ := gS
      exact ⟨o, es, ep, tb, mv.heap a _ nw ho, r⟩
    show wpAny _ A.in1 (holding [Value.str (xs.getD i Str.empty) t] (setAdd a (.str (xs.getD i Str.empty) t)) >>= _) _ _ s'
    refine wpAny_bind (wpAny_holding ?_)
    unfold setAdd
    refine wpAny_holding (wpAny_bind ((PySem.strKind prog w).pyHash (k := xs.getD i Str.empty) (strKind_is _ _ _ _) ?_))
    have rm : dcn xs i + 1 < scanBound := by have := dcn_le xs i; omega
    refine wpAny_setAddHashed_of (knd := PySem.strKind prog w) (s := { s' with toks := s'.toks + 1 }) (strKind_is _ _ _ _) rfl gS1 rm fun h' sb gS2 => ?_
    have gS3 : h'.SetOf (PySem.strKind prog w) a (seen xs (i + 1)) (dcn xs (i + 1)) := SetOf_congr gS2 (fun y => (seen_next (by omega) y).symm) rfl
    refine wpAny_pure ⟨plainId_quiet PyProof.Rows.F.plain_set_update_loop _, ih (i + 1) _ (by omega) lt (W.frame _ s' _ _ st' (Nat.le_succ _) fun b q o e => ?_) gS3 fun s2 mv2 gS4 => ?_⟩
    · rw [sb.2 b (fun z : b = a => na (by rw [← z]; exact q))]; exact e
    · refine hR s2 (Moved.trans W.gtrans ((mv.mono up).then_heap (Nat.le_succ _) fun b o q e => ?_) mv2) gS4
      rw [sb.2 b (fun z : b = a => q (by rw [z]; exact List.mem_cons_self))]; exact e
end
abbrev newSet (led : Bool) : Obj := { cls := .type "set", dict := none, data := .set #[] 0 (.fresh 0 0 led) }
section
variable {prog : Program} {w : World} {A : Around} {E : Value → Shared → Prop} {s : Shared}
/-- set(v) of a list or a tuple of texts: T its class, oi what its iterator is -/
theorem call_set {T : String} {oi : Obj} {l : Addr} {items : Array Value} {xs : List Str} {Q : Value → Shared → Prop} {Hl : Heap → Prop} {Si : Addr → Nat → Heap → Prop} (hl : Hl s.heap) (B : Begins (.ref l) oi Hl) (hT : ∀ h, Hl h → ∃ o, h.get? l = some o ∧ o.cls = .type T)
    (s1 : isSubtype (.type T) (.type "set") = pure false) (s2 : isSubtype (.type T) (.type "frozenset") = pure false) (ne : (Value.type T == Value.type "dict") = false) (ndc : T ≠ "dict")
    (W : ∀ J, l ≠ J → Walks prog w A.in1.in1.in1 J [J, l] [J] items.size (fun i v => items[i]? = some v) (Si J)) (S0 : ∀ h J, h.get? J = some oi → Hl h → Si J 0 h)
    (hi : StrsAre items.toList xs) (hb : xs.length + 1 < scanBound)
    (h : ∀ (h' : Heap) (tk : Nat), h'.SetOf (PySem.strKind prog w) s.heap.objs.size (seen xs xs.length) (dcn xs xs.length) → (∀ b o, b < s.heap.objs.size → s.heap.get? b = some o → h'.get? b = some o) → Q (.ref s.heap.objs.size) { s with heap := h', toks := tk }) :
    wpAny (model prog w) A (call (.type "set") [.ref l]) Q E s := by
  obtain ⟨c, tl, hmro⟩ := PySem.F.called_set.mro
  have z1 := PySem.F.called_set.made
  have z2 := PySem.F.called_set.sub
  refine wpAny_call (codeAny_of_tree ?_)
  show wpAny _ _ (callAny (.type "set") _) _ _ _
  refine wpAny_pure ⟨Code.quiet_builtin _ (by decide +kernel), codeAny_builtin PySem.F.entry_type_call ?_⟩
  rw [Around.under_plain (weight_type_call_type "set" [.ref l] []) rfl]
  have z3 := PySem.F.called_set.notType
  have z4 := PySem.F.called_set.canCreate
  have z5 := PySem.F.typeCall_set_1 (.ref l)
  repeat (any_goals (first | assumption | wp_step))
  refine codeAny_mono (code_set_new_1 (.ref l) (E := E) (Q₁ := fun ob t => ∃ led : Bool, ob = .ref s.heap.objs.size ∧ t = { s with heap := s.heap.push (newSet led) }) fun led => ⟨led, rfl, rfl⟩) fun r t hr => ?_
  cases r with
  | error e => exact hr
  | ok fl =>
    cases fl with
    | next => exact hr.elim
    | brk => exact hr.elim
    | cont => exact hr.elim
    | ret ob =>
      obtain ⟨led, rfl, rfl⟩ := hr
      have gA : (s.heap.push (newSet led)).get? s.heap.objs.size = some (newSet led) := Heap.get?_push_size _ rfl
      have tA : Shared.TypeIs { s with heap := s.heap.push (newSet led) } (.ref s.heap.objs.size) "set" := ⟨_, gA, rfl⟩
      have z6 := PySem.F.called_set.init.lookup
      have z7 := PySem.F.called_set.init.bind (.ref s.heap.objs.size)
      repeat (any_goals (first | assumption | wp_step))
      refine codeAny_mono (codeAny_call_builtin (R := wants (fun r t => r = .none ∧ ∃ h' tk, t = { s with heap := h', toks := tk } ∧ h'.SetOf (PySem.strKind prog w) s.heap.objs.size (seen xs xs.length) (dcn xs xs.length) ∧
          (∀ b o, b < s.heap.objs.size → s.heap.get? b = some o → h'.get? b = some o)) E) PySem.F.called_set.init.plain PySem.F.entry_set_init (check_set_init_1 tA ?_)) fun r2 t2 hr2 => ?_
      · have hl1 : Hl (s.heap.push (newSet led)) := B.keeps _ _ hl fun b o e => Heap.get?_push_of_some _ e
        obtain ⟨ol, hol, hcl⟩ := hT _ hl
        have hol1 : (s.heap.push (newSet led)).get? l = some ol := Heap.get?_push_of_some _ hol
        have tL : Shared.TypeIs { s with heap := s.heap.push (newSet led) } (.ref l) T := ⟨_, hol1, hcl⟩
        unfold Builtin.«set.__init__» noKeywords Builtin.Frozenset.updateFrom
        generalize hPI : pyIter = PI
        wp_walk
        subst hPI
        refine B.iter _ _ _ _ _ _ hl1 ?_
        refine wpAny_bind (wpAny_runValue ?_)
        have ll : l < s.heap.objs.size := Heap.lt_size hol
        have zJ : (s.heap.push (newSet led)).objs.size = s.heap.objs.size + 1 := Heap.size_push ..
        have nJ : l ≠ (s.heap.push (newSet led)).objs.size := by rw [zJ]; exact Nat.ne_of_lt (Nat.lt_succ_of_lt ll)
        have nA : s.heap.objs.size ∉ [(s.heap.push (newSet led)).objs.size, l] := by
          rw [zJ]
          simp only [List.mem_cons, List.not_mem_nil, or_false, not_or]
          exact ⟨Nat.ne_of_lt (Nat.lt_succ_self _), Nat.ne_of_gt ll⟩
        have hz : xs.length = items.size := by rw [← StrsAre.len_eq hi, Array.length_toList]
        have hl2 : Hl ((s.heap.push (newSet led)).push oi) := B.keeps _ _ hl1 fun b o e => Heap.get?_push_of_some _ e
        have gA2 : ((s.heap.push (newSet led)).push oi).get? s.heap.objs.size = some (newSet led) := Heap.get?_push_of_some _ gA
        refine fill ((W _ nJ).toS) s.heap.objs.size nA xs hz (by rw [← hz]; exact hb) (fun i v hv => strs_at hi i v (by rw [Array.getElem?_toList]; exact hv)) (items.size - 0) 0 _ (by omega) (Nat.zero_le _)
          (S0 _ _ (Heap.get?_push_size _ B.free) hl2) (SetOf_congr ((setObjOf_fresh (knd := PySem.strKind prog w) led).setOf gA2 (by unfold scanBound; omega)) (fun _ => rfl) rfl) fun s' mv gS => ?_
        obtain ⟨h', g', d', tk', os'⟩ := s'
        obtain rfl : g' = s.gens := mv.gens
        obtain rfl : d' = s.drawn := mv.drawn
        obtain rfl : os' = s.os := mv.os
        show wpAny _ _ _ _ _ _
        refine wpAny_pure ?_
        show wpAny _ _ (ret Value.none) _ _ _
        rw [← hz] at gS
        refine wpAny_pure ⟨rfl, h', tk', rfl, gS, fun b o q e => ?_⟩
        have b1 : b ≠ s.heap.objs.size := Nat.ne_of_lt q
        have b2 : b ≠ (s.heap.push (newSet led)).objs.size := by rw [zJ]; exact Nat.ne_of_lt (Nat.lt_succ_of_lt q)
        exact mv.heap b o (by simp only [List.mem_cons, List.not_mem_nil, or_false, not_or]; exact ⟨b1, b2⟩) (Heap.get?_push_of_some _ (Heap.get?_push_of_some _ e))
      · cases r2 with
        | error e => exact hr2
        | ok fl2 =>
          cases fl2 with
          | next => exact hr2.elim
          | brk => exact hr2.elim
          | cont => exact hr2.elim
          | ret r =>
            obtain ⟨rfl, h', tk, rfl, gS, kp⟩ := hr2
            repeat (any_goals (first | assumption | wp_step))
            exact h _ _ gS kp
end
/-! ### what the number of different texts tells -/
theorem dcn_nodup {xs : List Str} : ∀ {i : Nat}, i ≤ xs.length → (dcn xs i = i ↔ (xs.take i).Nodup)
  | 0, _ => by simp [dcn]
  | i + 1, h => by
    have ih := dcn_nodup (xs := xs) (i := i) (by omega)
    have le := dcn_le xs i
    have lt : i < xs.length := by omega
    rw [take_one (getD_at lt), List.nodup_append]
    unfold dcn
    by_cases q : seen xs i (xs.getD i Str.empty) = true
    · rw [if_pos q]
      have mem : xs.getD i Str.empty ∈ xs.take i := by
        obtain ⟨y, hy, e⟩ := List.any_eq_true.mp q
        have : y = xs.getD i Str.empty := by simpa using e
        rw [← this]; exact hy
      constructor
      · intro z; omega
      · intro z; exact absurd rfl (z.2.2 _ mem _ (by simp))
    · rw [if_neg q]
      have nmem : xs.getD i Str.empty ∉ xs.take i := fun hm => q (List.any_eq_true.mpr ⟨_, hm, by simp⟩)
      constructor
      · intro z
        refine ⟨ih.mp (by omega), by simp, fun a ha b hb e => ?_⟩
        have : b = xs.getD i Str.empty := by simpa using hb
        rw [e, this] at ha
        exact nmem ha
      · intro z
        have := ih.mpr z.1
        omega
end Vs
namespace L2.Vs
open PySem PySem.Spec PyProof.Rows _root_.Vs
/-- len(set(xs)), xs a list or tuple of some texts -/
def tLenS (K : PySem.W.Frag) (ta : TE) : TE := fun σ H Q => ta σ H fun x H1 => ∃ l, ∃ xs : List Str, x = .ref l ∧ (SqL K H1 l (xs.map V.str) ∨ SqT K H1 l (xs.map V.str)) ∧ xs.length ≤ 100 ∧ Q (.int (dcn xs xs.length)) H1
theorem pe_lenS {X : Cx} {a : Expr} {ta : TE} {p p2 q pos : Pos} (hc : X.calm = true) (hg : Gl X "len") (hm : X.mg "len" = none) (hg2 : Gl X "set") (hm2 : X.mg "set" = none) (ha : PE X a ta)
    (na : starEach [a] X.env = (false, eval a X.env) :: starEach [] X.env := by rfl) : PE X (.Call (.Name "len" p) [.Call (.Name "set" p2) [a] [] q] [] pos) (tLenS X.K ta) := by
  refine ⟨fun pins s σ H Q I h => ?_⟩
  refine Call_ (ld_blt I hg hm boot_len (PyProof.Rows.callWith_builtin1 (PyProof.Rows.args_cons ?_ rfl) rfl rfl))
  refine Call_ (ld_blt I hg2 hm2 boot_set (PyProof.Rows.callWith_type1 (PyProof.Rows.args_cons (thn (ha.run pins s σ H _ I h) fun v s1 ⟨x, H1, J, r1, q1⟩ => PyProof.Rows.args_nil ?_) na) na rfl))
  obtain ⟨l, xs, rfl, hq, hn, q1⟩ := q1
  obtain rfl : v = Value.ref l := r1
  have hh := J.ok.hd hc
  have sc : xs.length + 1 < scanBound := by unfold scanBound; omega
  have fin : ∀ (h' : Heap) (tk : Nat), h'.SetOf (PySem.strKind X.prog X.w) s1.heap.objs.size (seen xs xs.length) (dcn xs xs.length) → (∀ b o, b < s1.heap.objs.size → s1.heap.get? b = some o → h'.get? b = some o) →
      wpAny (model X.prog X.w) X.A (spliced (backTo pos (starEach [] X.env))) (fun vs s₂ => wpAny (model X.prog X.w) X.A (call (.builtin "len") (Value.ref s1.heap.objs.size :: vs)) (EP X pins σ Q) X.xe s₂) X.xe { s1 with heap := h', toks := tk } := fun h' tk gS kp => by
    refine PyProof.Rows.args_nil ?_
    have ld := dcn_le xs xs.length
    obtain ⟨o, es, ep, t, ho, hex, hd, _, _, _, hf, hnn⟩ := gS
    have J2 : Inv X pins σ H1 { s1 with heap := h', toks := tk } := J.kept fun b o e => kp b o (Heap.lt_size e) e
    exact call_len_set ho hex hd hf (by rw [hnn]; omega) ⟨.int (dcn xs xs.length), H1, J2.tok _, ⟨_, by rw [hnn]⟩, q1⟩
  rcases hq with hq | hq
  · obtain ⟨its, r, pl, hz⟩ := J.list hq
    refine call_set (T := "list") (items := its.toArray) (Si := fun J i h => h.IsListIter J l i ∧ h.IsList l its.toArray) (Hl := fun h => h.IsList l its.toArray) pl.isList (begins_list l its.toArray) (fun h z => let ⟨o, ho, hc, _⟩ := z; ⟨o, ho, hc⟩) PySem.F.sub_list_set PySem.F.sub_list_frozenset (by decide) (by decide)
      (fun J' ne => Walks.list (show X.A.in1.in1.in1.handled = none from hh) J' l ne its.toArray) (fun h J' e z => ⟨⟨_, e, rfl, rfl⟩, z⟩) (by simpa using strsAre_of r) sc fin
  · obtain ⟨its, r, pl, hz⟩ := J.tuple hq
    refine call_set (T := "tuple") (items := its.toArray) (Si := fun J i h => h.IsTupleIter J l i ∧ h.IsTuple l its.toArray) (Hl := fun h => h.IsTuple l its.toArray) pl (begins_tuple l its.toArray) (fun h z => let ⟨o, ho, hc, _⟩ := z; ⟨o, ho, hc⟩) PySem.F.sub_tuple_set PySem.F.sub_tuple_frozenset (by decide) (by decide)
      (fun J' ne => Walks.tuple (show X.A.in1.in1.in1.handled = none from hh) J' l ne its.toArray) (fun h J' e z => ⟨⟨_, e, rfl, rfl⟩, z⟩) (by simpa using strsAre_of r) sc fin
end L2.Vs

namespace L2.Tr
open PySem PySem.Spec PyProof.Rows
section
variable {X : Cx} {K : PySem.W.Frag} {C : Addr} {k : Nat} {e e2 o tg a b c : Expr} {es : List Expr} {t t' ta tb tc te : TE} {φ φ' φa φb φc : Env → Option D} {ψ : Env → Option (List D)} {pos : Pos}
/-! ### len of an instance with a __len__ of its own -/
structure Len (P : Program) (w : World) (K : PySem.W.Frag) (mg : Str → Option Value) (base : Heap) (C : Addr) (k : Nat) (f : List D → Option D) : Prop where
  ex : ∃ (a : Addr) (fd : FuncData) (ps : List Str), L2.Vy.Own1 K C a "__len__" ∧ FnOk P w K mg base CX0 k a fd ps (spP f) ∧ Binds K fd ps []
def rLenO (C : Addr) (sp : Sp) : List V → Hp → VK → Prop := fun xs H Q => ∃ a dx fs, xs = [.ref a] ∧ H a = some (.ins C dx fs) ∧ sp [.ref a] H (fun v H' => ∃ n : Int, v = .int n ∧ 0 ≤ n ∧ n < 2 ^ 63 ∧ Q (.int n) H') E0
theorem call_lenO {f : Addr} {fd : FuncData} {ps : List Str} {sp : Sp} (F : FnOk X.prog X.w X.K X.mg X.base CX0 k f fd ps sp) (hr : Room (k + 1) X.A) (O : L2.Vy.Own1 X.K C f "__len__") (hb : Binds X.K fd ps []) : CallR X (.builtin "len") (rLenO C sp) := by
  intro pins s σ H xs us Q I rv h
  obtain ⟨a, dx, fs, rfl, ha, q⟩ := h
  obtain rfl : us = [Value.ref a] := by
    cases rv with
    | cons r t => cases t; cases r; rfl
  obtain ⟨mA, J, _⟩ := ins_get I.hok ha
  obtain ⟨od, J, _⟩ := J.look
  obtain ⟨m, fr⟩ := I.fr
  refine PySem.W.len_K fr I.ok.mod.kin J O.hs O.hf ?_
  have hl := F.len _ _ _ _ q
  have r2 : Vals [V.ref a] [Value.ref a] := .cons (show RelV (V.ref a) (Value.ref a) from rfl) .nil
  refine wpAny_call (codeAny_mono (F.run X.A.in1 X.stack s H ⟨[.ref a], []⟩ [.ref a] [.ref a] _ E0 hr.in1 I.env0.in1 (by
    have := hb s [.ref a] I.kIn (by simpa using hl)
    simpa using this) r2 q) fun r s' hq => ?_)
  cases r with
  | error e => exact (show False from hq).elim
  | ok fl =>
    cases fl with
    | ret w' =>
      obtain ⟨z, H', I', rz, n, ez, h0, h1, hq2⟩ := I.after hq
      subst ez
      obtain ⟨tk, rfl⟩ := rz
      exact ⟨⟨h0, h1⟩, .int n, H', I'.tok _, ⟨_, rfl⟩, hq2⟩
    | next => exact False.elim hq
    | brk => exact False.elim hq
    | cont => exact False.elim hq
theorem len_cr {f : List D → Option D} (h : Len X.prog X.w X.K X.mg X.base C k f) (hr : Room (k + 1) X.A) : CallR X (.builtin "len") (rLenO C (spP f)) := by
  obtain ⟨a, fd, ps, h1, h2, h3⟩ := h.ex
  exact call_lenO h2 hr h1 h3
def lenOD (C0 : Addr) (f : List D → Option D) : List D → Option D
  | [.obj C ns ds] => if C = C0 then ((f [.obj C ns ds]).bind asI).bind fun n => if 0 ≤ n ∧ n < 2 ^ 63 then some (.leaf (.int n)) else none else none
  | _ => none
theorem r1_lenO {C0 : Addr} {f : List D → Option D} : R1D (rLenO C0 (spP f)) (lenOD C0 f) := fun ds z e G H vs x r1 Q k => by
  unfold lenOD at e
  split at e
  · rename_i C ns ds
    split at e
    · rename_i hC
      subst hC
      obtain ⟨v, rfl, r⟩ := views1 r1
      obtain ⟨n, e1, e2⟩ := Option.bind_eq_some_iff.mp e
      obtain ⟨dn, e3, e4⟩ := Option.bind_eq_some_iff.mp e1
      split at e2
      · rename_i hn
        cases e2
        have rr := r.rep x
        obtain ⟨p, dx, us, rfl, h1, h2, h3⟩ := r.obj x
        refine ⟨p, dx, _, rfl, h1, H, _, dn, Ex.refl _, .cons rr .nil, e3, fun v G2 H2 f2 r => ?_⟩
        unfold asI at e4
        split at e4
        · cases e4
          obtain ⟨rfl, _⟩ := r.un_lf
          exact ⟨n, rfl, hn.1, hn.2, k _ G H2 (.of x (f2.g.trans f2.gh)) (.lf rfl)⟩
        · cases e4
      · cases e2
    · cases e
  · cases e
/-! ### len(set(words)) -/
def strsOf : List D → Option (List Str)
  | [] => some []
  | .leaf (.str x) :: r => (strsOf r).map (x :: ·)
  | _ :: _ => none
theorem strs_un : ∀ {ds : List D} {xs : List Str}, strsOf ds = some xs → ds = (xs.map V.str).map D.leaf
  | [], xs, h => by cases h; rfl
  | d :: r, xs, h => by
    unfold strsOf at h
    split at h
    · rename_i hh; cases hh
    · rename_i x r' hh
      obtain ⟨ws, h1, rfl⟩ := Option.map_eq_some_iff.mp h
      injection hh with e1 e2
      subst e1 e2
      rw [strs_un h1]; rfl
    · cases h
theorem strs_map : ∀ (xs : List Str), strsOf (xs.map fun x => D.leaf (.str x)) = some xs
  | [] => rfl
  | x :: r => by rw [List.map_cons, strsOf, strs_map r]; rfl
def lenSF (φ : Env → Option D) : Env → Option D := fun ρ => (φ ρ).bind fun d => match d with
  | .seq _ ds => (strsOf ds).bind fun xs => if xs.length ≤ 100 then some (.leaf (.int (Vs.dcn xs xs.length))) else none
  | _ => none
theorem pu_lenS {p p2 q : Pos} (hc : X.calm = true) (hg : Gl X "len") (hm : X.mg "len" = none) (hg2 : Gl X "set") (hm2 : X.mg "set" = none) (h : ViD X a ta φa)
    (na : starEach [a] X.env = (false, eval a X.env) :: starEach [] X.env := by rfl) : PuD X (.Call (.Name "len" p) [.Call (.Name "set" p2) [a] [] q] [] pos) (L2.Vs.tLenS X.K ta) (lenSF φa) := ⟨L2.Vs.pe_lenS hc hg hm hg2 hm2 h.pe na, fun ρ z ee G H σ x Q k => by
  obtain ⟨d, e1, e2⟩ := Option.bind_eq_some_iff.mp ee
  refine h.ev ρ d e1 G H σ x _ fun v G1 H1 f1 r1 => ?_
  split at e2
  · rename_i b ds
    obtain ⟨xs, e3, e4⟩ := Option.bind_eq_some_iff.mp e2
    split at e4
    · rename_i hl
      cases e4
      obtain rfl := strs_un e3
      obtain ⟨l, us, rfl, h1, l1, q1⟩ := r1.seq f1.gh
      obtain ⟨rfl, _⟩ := reps_leafy q1
      refine ⟨l, xs, rfl, ?_, hl, k _ G1 H1 f1 (.lf rfl)⟩
      cases b with
      | true => exact .inl (SqL.of h1)
      | false => exact .inr (SqT.of h1)
    · cases e4
  · cases e2⟩
/-! ### list(d.items()) -/
def itemsO (φ : Env → Option D) : Env → Option (List D) := fun ρ => (φ ρ).bind fun d => match d with
  | .dct ks ds => if ks.all okKey = true then some ((ks.zip ds).map fun p => .seq false [keyV p.1, p.2]) else none
  | _ => none
theorem items_reps {G H' : Hp} : ∀ {ks : List Key} {ds : List D} {us : List V} {ts : List Addr}, ks.all okKey = true → ks.length = ds.length → Reps G ds us → Ex G H' → Paired (fun (t : Addr) (q : Key × V) => H' t = some (.tup [kV q.1, q.2])) ts (ks.zip us) →
    Reps H' ((ks.zip ds).map fun p => .seq false [keyV p.1, p.2]) (ts.map V.ref)
  | [], ds, us, ts, _, _, _, _, p => by
    rw [List.zip_nil_left] at p
    cases p
    exact .nil
  | k :: ks, [], us, ts, _, h, _, _, _ => by simp at h
  | k :: ks, d :: ds, us, ts, ha, hl, r, e, p => by
    obtain ⟨u, us1, rfl, q, t⟩ := r.un
    rw [List.all_cons, Bool.and_eq_true] at ha
    rw [List.zip_cons_cons] at p
    cases p with
    | cons p1 p2 =>
      refine .cons (.sq (b := false) p1 (by show 2 ≤ Lim; decide) (.cons ?_ (.cons (q.mono e) .nil))) (items_reps ha.2 (by simpa using hl) t e p2)
      cases k with
      | inl i => exact .lf rfl
      | inr y => exact .lf ha.1
theorem ow_items {p apos cpos : Pos} (hc : X.calm = true) (h : ViD X e t φ) (hg : Gl X "list") (hm : X.mg "list" = none) (hv : bootBuiltins "list" = some (.type "list")) (hbase : attributeBase e "items" X.env (eval e X.env) = eval e X.env := by rfl) (hline : (apos.endLine == cpos.line) = true := by rfl)
    (hs : starEach [.Call (.Attribute e "items" apos) [] [] cpos] X.env = (false, eval (.Call (.Attribute e "items" apos) [] [] cpos) X.env) :: starEach [] X.env := by rfl) :
    OwD X (.Call (.Name "list" p) [.Call (.Attribute e "items" apos) [] [] cpos] [] pos) (LiI.tListItems t) (itemsO φ) := ⟨LiI.pe_listItems hc h.pe hg hm hv hbase hline hs, fun ρ z ee G H σ x Q kk => by
  obtain ⟨d, e1, e2⟩ := Option.bind_eq_some_iff.mp ee
  refine h.ev ρ d e1 G H σ x _ fun v G1 H1 f1 r1 => ?_
  split at e2
  · rename_i ks ds
    split at e2
    · rename_i hk
      cases e2
      obtain ⟨a, us, rfl, h1, l0, l1, q⟩ := r1.dct f1.gh
      refine ⟨a, _, rfl, h1, fun H' p ts ex np nt npt hp pr => ?_⟩
      have gh : Ex G1 H' := f1.gh.trans ex
      -- G2: what was there, and the pairs
      let G2 : Hp := fun c => if c = p then none else if c ∈ ts then H' c else G1 c
      have e12 : Ex G1 G2 := fun c o ho => by
        have c1 : c ≠ p := fun z => by rw [z, f1.gh.back np] at ho; cases ho
        have c2 : c ∉ ts := fun z => by rw [f1.gh.back (nt c z)] at ho; cases ho
        show (if c = p then none else if c ∈ ts then H' c else G1 c) = some o
        rw [if_neg c1, if_neg c2]; exact ho
      have e2h : Ex G2 H' := fun c o ho => by
        have ho : (if c = p then none else if c ∈ ts then H' c else G1 c) = some o := ho
        by_cases c1 : c = p
        · rw [if_pos c1] at ho; cases ho
        · rw [if_neg c1] at ho
          by_cases c2 : c ∈ ts
          · rw [if_pos c2] at ho; exact ho
          · rw [if_neg c2] at ho; exact gh _ _ ho
      have pr2 : Paired (fun (t : Addr) (q : Key × V) => G2 t = some (.tup [kV q.1, q.2])) ts (ks.zip us) := by
        have : ∀ {as : List Addr} {qs : List (Key × V)}, (∀ c ∈ as, c ∈ ts) → Paired (fun (t : Addr) (q : Key × V) => H' t = some (.tup [kV q.1, q.2])) as qs → Paired (fun (t : Addr) (q : Key × V) => G2 t = some (.tup [kV q.1, q.2])) as qs := fun {as qs} hs pp => by
          induction pp with
          | nil => exact .nil
          | @cons c q as qs h t ih =>
            refine .cons ?_ (ih fun c hc => hs c (List.mem_cons_of_mem _ hc))
            have hc := hs c List.mem_cons_self
            show (if c = p then none else if c ∈ ts then H' c else G1 c) = _
            rw [if_neg (fun z => npt (by rw [← z]; exact hc)), if_pos hc]; exact h
        exact this (fun _ z => z) pr
      have hlen : (ts.map V.ref).length = ((ks.zip ds).map fun p => D.seq false [keyV p.1, p.2]).length := by
        rw [List.length_map, List.length_map, Paired.length pr, List.length_zip, List.length_zip, q.len]
      refine kk p (ts.map V.ref) G2 H' (f1.trans ⟨e12, e2h, ex, fun c z1 z2 => ?_⟩) (f1.ne np) (by show (if p = p then none else _) = none; rw [if_pos rfl]) hp (by rw [List.length_map, List.length_zip]; omega) (items_reps hk l0 (q.mono e12) (Ex.refl _) pr2)
      show (if c = p then none else if c ∈ ts then H' c else G1 c) = none
      by_cases c1 : c = p
      · rw [if_pos c1]
      · rw [if_neg c1, if_neg (fun z => z1 (nt c z))]; exact z2
    · cases e2
  · cases e2⟩
/-! ### == of plain data -/
mutual
def pyD : D → Option PyData
  | .leaf .non => some .none
  | .leaf (.bl b) => some (.bool b)
  | .leaf (.int i) => some (.int i)
  | .leaf (.str x) => some (.str x)
  | .leaf _ => none
  | .seq true ds => (pyDs ds).map .list
  | .seq false ds => (pyDs ds).map .tuple
  | .dct _ _ => none
  | .obj _ _ _ => none
  | .frz _ _ => none
def pyDs : List D → Option (List PyData)
  | [] => some []
  | d :: ds => (pyD d).bind fun p => (pyDs ds).map (p :: ·)
end
mutual
theorem rep_dp {K : PySem.W.Frag} {H : Hp} : ∀ {d : D} {v : V} {p : PyData}, pyD d = some p → Rep H d v → Dp K H v p
  | .leaf x, v, p, h, r => by
    obtain ⟨rfl, lf⟩ := r.un_lf
    cases v <;> simp only [pyD] at h <;> first | (cases h; done) | (cases h; first | exact .non | exact .bl _ | exact .int _ | exact .str _)
  | .seq b ds, v, p, h, r => by
    obtain ⟨a, us, rfl, h1, _, q⟩ := r.un_sq
    cases b with
    | true =>
      simp only [pyD] at h
      obtain ⟨ps, h2, rfl⟩ := Option.map_eq_some_iff.mp h
      exact .lst (SqL.of h1) (reps_dp h2 q)
    | false =>
      simp only [pyD] at h
      obtain ⟨ps, h2, rfl⟩ := Option.map_eq_some_iff.mp h
      exact .tup (SqT.of h1) (reps_dp h2 q)
  | .dct _ _, v, p, h, r => by simp only [pyD] at h; cases h
  | .obj _ _ _, v, p, h, r => by simp only [pyD] at h; cases h
  | .frz _ _, v, p, h, r => by simp only [pyD] at h; cases h
theorem reps_dp {K : PySem.W.Frag} {H : Hp} : ∀ {ds : List D} {us : List V} {ps : List PyData}, pyDs ds = some ps → Reps H ds us → DpAll K H us ps
  | [], us, ps, h, r => by
    simp only [pyDs] at h
    cases h
    rw [r.un0]
    exact .nil
  | d :: ds, us, ps, h, r => by
    simp only [pyDs] at h
    obtain ⟨p, h1, h2⟩ := Option.bind_eq_some_iff.mp h
    obtain ⟨qs, h3, rfl⟩ := Option.map_eq_some_iff.mp h2
    obtain ⟨u, us1, rfl, q, t⟩ := r.un
    exact .cons (rep_dp h1 q) (reps_dp h3 t)
end
def eqP (neg : Bool) (x y : D) : Option D := (pyD x).bind fun p => (pyD y).bind fun q => if SeqAt.shaped p = true ∧ SeqAt.shaped q = true then some (bD (xor neg (PyData.eqv p q))) else none
theorem eqP_un {neg : Bool} {x y z : D} (h : eqP neg x y = some z) : ∃ p q, pyD x = some p ∧ pyD y = some q ∧ SeqAt.shaped p = true ∧ SeqAt.shaped q = true ∧ z = bD (xor neg (PyData.eqv p q)) := by
  obtain ⟨p, h1, h⟩ := Option.bind_eq_some_iff.mp h
  obtain ⟨q, h2, h⟩ := Option.bind_eq_some_iff.mp h
  split at h
  · rename_i hs
    cases h
    exact ⟨p, q, h1, h2, hs.1, hs.2, rfl⟩
  · cases h
theorem r2_eqD : R2D (rEqD K) (eqP false) := fun d1 d2 z e G H v1 v2 x r1 r2 Q k => by
  obtain ⟨p, q, h1, h2, h3, h4, rfl⟩ := eqP_un e
  exact ⟨p, q, rep_dp h1 (r1.rep x), rep_dp h2 (r2.rep x), h3, h4, k _ G H (.refl x) (by rw [Bool.false_xor]; exact .lf rfl)⟩
theorem r2_neD : R2D (rNeD K) (eqP true) := fun d1 d2 z e G H v1 v2 x r1 r2 Q k => by
  obtain ⟨p, q, h1, h2, h3, h4, rfl⟩ := eqP_un e
  exact ⟨p, q, rep_dp h1 (r1.rep x), rep_dp h2 (r2.rep x), h3, h4, k _ G H (.refl x) (by rw [Bool.true_xor]; exact .lf rfl)⟩
end
end L2.Tr

/-! zip of two things of any of these kinds: a list, a tuple, the values of a dict that stands still -/
namespace L2.Zg
open PySem
open PySem.Sem (wp)
/-- an iterator: N k, it stands at k; Dt xs, what it walks stands as xs; ks, where that stands -/
structure Src (P : Program) (w : World) (it : Addr) (ks : List Addr) (N : Nat → Heap → Prop) (Dt : List Value → Heap → Prop) : Prop where
  obj : ∀ k h, N k h → ∃ o, h.get? it = some o ∧ ∀ v, o.data ≠ .cell v
  keepN : ∀ k h h', N k h → (∀ o, h.get? it = some o → h'.get? it = some o) → N k h'
  keepD : ∀ xs h h', Dt xs h → (∀ c ∈ ks, ∀ o, h.get? c = some o → h'.get? c = some o) → Dt xs h'
  item : ∀ (A : Around) (E Q : Value → Shared → Prop) (s : Shared) (k : Nat) (xs : List Value) (x : Value), N k s.heap → Dt xs s.heap → xs[k]? = some x → (∀ h', N (k + 1) h' → Heap.SameBut it s.heap h' → Q x { s with heap := h' }) →
    wpAny (model P w) A (Builtin.SmallTypes.nextOf (.ref it)) Q E s
  done : ∀ (A : Around) (E Q : Value → Shared → Prop) (s : Shared) (k : Nat) (xs : List Value), A.handled = none → N k s.heap → Dt xs s.heap → xs[k]? = none →
    (∀ h' e, Heap.ExtBut it s.heap h' → (∃ o, h'.get? e = some o ∧ o.cls = .type "StopIteration") → E (.ref e) { s with heap := h' }) → wpAny (model P w) A (Builtin.SmallTypes.nextOf (.ref it)) Q E s
theorem src_lst {P : Program} {w : World} {it l : Addr} : Src P w it [l] (fun k h => h.IsListIter it l k) (fun xs h => h.IsList l xs.toArray) where
  obj := fun k h st => by obtain ⟨o, e, _, d⟩ := st; exact ⟨o, e, fun v q => by rw [d] at q; cases q⟩
  keepN := fun k h h' st e => st.at e
  keepD := fun xs h h' st e => st.at (e l (by simp))
  item := fun A E Q s k xs x h1 h2 hx hQ => wpAny_nextOf_list_item h1 h2 (by simpa using hx) hQ
  done := fun A E Q s k xs hh h1 h2 hx hE => wpAny_nextOf_list_end hh h1 h2 (by simpa using hx) hE
theorem src_tup {P : Program} {w : World} {it l : Addr} : Src P w it [l] (fun k h => h.IsTupleIter it l k) (fun xs h => h.IsTuple l xs.toArray) where
  obj := fun k h st => by obtain ⟨o, e, _, d⟩ := st; exact ⟨o, e, fun v q => by rw [d] at q; cases q⟩
  keepN := fun k h h' st e => st.at e
  keepD := fun xs h h' st e => st.at (e l (by simp))
  item := fun A E Q s k xs x h1 h2 hx hQ => RZ.nextOf_tuple_item h1 h2 (by simpa using hx) hQ
  done := fun A E Q s k xs hh h1 h2 hx hE => RZ.nextOf_tuple_end hh h1 h2 (by simpa using hx) hE
section
variable {prog : Program} {w : World} {K : Type} [DecidableEq K] {knd : KeyKind prog w K} {A : Around} {E : Value → Shared → Prop} {s : Shared}
theorem nextOf_vals_item {it d : Addr} {i ep : Nat} {kvs : List (K × Value)} {k : K} {v : Value} {Q : Value → Shared → Prop} (hit : s.heap.IsValIter it d i kvs.length ep)
    (hm : s.heap.DictAt knd d kvs ep) (hx : kvs[i]? = some (k, v))
    (hQ : ∀ h', h'.IsValIter it d (i + 1) kvs.length ep → Heap.SameBut it s.heap h' → Q v { s with heap := h' }) :
    wpAny (model prog w) A (Builtin.SmallTypes.nextOf (.ref it)) Q E s := by
  obtain ⟨o, ho, hc, hd⟩ := id hit
  obtain ⟨od, es, hod, hcd, hdd, hk, hp, hn⟩ := id hm
  unfold Builtin.SmallTypes.nextOf
  refine wpAny_bind (wpAny_callSpecial?_slot (name := Str.ofString "__next__") hit.typeIs F.slot_dict_valueiterator_next
    (wpAny_call_entry F.slot_dict_valueiterator_next hit.typeIs F.entry_dict_valueiterator_next ?_ (F.args_dict_valueiterator_next_1 _)))
  refine wpAny_bind (wpAny_pure ?_)
  refine wpAny_bind ?_
  refine wpAny_bind ?_
  first | refine wpAny_bind (wpAny_typeNameOfWhole_valiter hit.typeIs (wpAny_pure ?_)) | refine wpAny_bind (wpAny_typeNameOf_valiter hit.typeIs (wpAny_pure ?_))
  refine wpAny_bind (wpAny_fieldsOf ho hd ?_)
  have hown : Builtin.Dict_items.ownsTuple "dict_valueiterator" = false := by decide
  simp only [hown, Bool.false_eq_true, if_false]
  show wpAny _ _ (if (Value.ref d == Value.none) = true then _ else _) _ _ s
  rw [if_neg (show ¬ ((Value.ref d == Value.none) = true) from Bool.false_ne_true)]
  refine wpAny_bind (wpAny_pure ?_)
  refine wpAny_bind (wpAny_dictEntries hod hdd ?_)
  have hsz : es.size = kvs.length := by rw [← hp.length]; simp
  rw [if_neg (by rw [hsz]; simp)]
  refine wpAny_bind (wpAny_pure ?_)
  refine wpAny_bind (wpAny_dictEpoch hod hdd ?_)
  rw [if_neg (by simp)]
  refine wpAny_pure ?_
  have hlt : i < kvs.length := by
    rcases Nat.lt_or_ge i kvs.length with h | h
    · exact h
    · simp [List.getElem?_eq_none h] at hx
  have hlt' : i < es.size := by rw [hsz]; exact hlt
  have hval : es[i].val = v := (hp.get? (e := es[i]) (by simp [hlt']) hx).2
  simp only [show ¬ ((i : Int) < 0) from by omega, if_false, Int.toNat_natCast, Array.getElem?_eq_getElem hlt']
  refine wpAny_bind ?_
  first | refine wpAny_bind (wpAny_typeNameOfWhole_valiter hit.typeIs (wpAny_pure ?_)) | refine wpAny_bind (wpAny_typeNameOf_valiter hit.typeIs (wpAny_pure ?_))
  refine wpAny_bind (wpAny_isOneOf_valiter hit.typeIs ?_)
  show wpAny _ _ (setField (.ref it) 1 (rawInt ((i : Int) + 1)) >>= _) _ _ s
  refine wpAny_bind (wpAny_setField ho hd (by simp) ?_)
  have hit' : (s.heap.update it (Obj.mapFields (·.setIfInBounds 1 (rawInt ((i : Int) + 1))))).IsValIter it d (i + 1) kvs.length ep :=
    ⟨_, Heap.get?_update_self _ ho (Obj.isFreed_of_fields (Obj.data_mapFields hd _)), (Obj.cls_mapFields ..).trans hc, by rw [Obj.data_mapFields hd]; simp [rawInt]⟩
  refine wpAny_bind (wpAny_holding ?_)
  refine wpAny_bind (wpAny_isOneOf_valiter (s := { s with heap := s.heap.update it (Obj.mapFields (·.setIfInBounds 1 (rawInt ((i : Int) + 1)))) }) hit'.typeIs ?_)
  refine wpAny_bind (wpAny_isOneOf_valiter (s := { s with heap := s.heap.update it (Obj.mapFields (·.setIfInBounds 1 (rawInt ((i : Int) + 1)))) }) hit'.typeIs ?_)
  show wpAny _ _ (pure es[i].val) _ _ _
  exact wpAny_pure (wpAny_pure ⟨_, rfl, wpAny_pure (hval ▸ hQ _ hit' (Heap.SameBut.update ..))⟩)
theorem nextOf_vals_end {it d : Addr} {i ep : Nat} {kvs : List (K × Value)} {Q : Value → Shared → Prop} (hh : A.handled = none) (hit : s.heap.IsValIter it d i kvs.length ep)
    (hm : s.heap.DictAt knd d kvs ep) (hx : kvs[i]? = none)
    (hE : ∀ h' e, Heap.ExtBut it s.heap h' → (∃ o, h'.get? e = some o ∧ o.cls = .type "StopIteration") → E (.ref e) { s with heap := h' }) : wpAny (model prog w) A (Builtin.SmallTypes.nextOf (.ref it)) Q E s := by
  obtain ⟨o, ho, hc, hd⟩ := id hit
  obtain ⟨od, es, hod, hcd, hdd, hk, hp, hn⟩ := id hm
  unfold Builtin.SmallTypes.nextOf
  refine wpAny_bind (wpAny_callSpecial?_slot (name := Str.ofString "__next__") hit.typeIs F.slot_dict_valueiterator_next
    (wpAny_call_entry F.slot_dict_valueiterator_next hit.typeIs F.entry_dict_valueiterator_next ?_ (F.args_dict_valueiterator_next_1 _)))
  refine wpAny_bind (wpAny_pure ?_)
  refine wpAny_bind ?_
  refine wpAny_bind ?_
  first | refine wpAny_bind (wpAny_typeNameOfWhole_valiter hit.typeIs (wpAny_pure ?_)) | refine wpAny_bind (wpAny_typeNameOf_valiter hit.typeIs (wpAny_pure ?_))
  refine wpAny_bind (wpAny_fieldsOf ho hd ?_)
  have hown : Builtin.Dict_items.ownsTuple "dict_valueiterator" = false := by decide
  simp only [hown, Bool.false_eq_true, if_false]
  show wpAny _ _ (if (Value.ref d == Value.none) = true then _ else _) _ _ s
  rw [if_neg (show ¬ ((Value.ref d == Value.none) = true) from Bool.false_ne_true)]
  refine wpAny_bind (wpAny_pure ?_)
  refine wpAny_bind (wpAny_dictEntries hod hdd ?_)
  have hsz : es.size = kvs.length := by rw [← hp.length]; simp
  rw [if_neg (by rw [hsz]; simp)]
  refine wpAny_bind (wpAny_pure ?_)
  refine wpAny_bind (wpAny_dictEpoch hod hdd ?_)
  rw [if_neg (by simp)]
  refine wpAny_pure ?_
  have hge : es.size ≤ i := by rw [hsz]; simpa using hx
  simp only [show ¬ ((i : Int) < 0) from by omega, if_false, Int.toNat_natCast, Array.getElem?_eq_none hge]
  refine wpAny_bind ?_
  first | refine wpAny_bind (wpAny_typeNameOfWhole_valiter hit.typeIs (wpAny_pure ?_)) | refine wpAny_bind (wpAny_typeNameOf_valiter hit.typeIs (wpAny_pure ?_))
  show wpAny _ _ (setField (.ref it) 0 .none >>= _) _ _ s
  refine wpAny_bind (wpAny_setField ho hd (by simp) ?_)
  show wpAny _ _ (newExc (.type "StopIteration") [] >>= _) _ _ _
  refine wpAny_bind ?_
  simp only [newExc, newTuple]
  refine wpAny_bind (wpAny_newObj_type ?_ (by size_fits))
  refine wpAny_bind (m := firstArgMember _ _) (wpAny_of_eq (a := Value.none) (by first | rfl | (simp only [firstArgMember]; rfl)) ?_)
  refine wpAny_newObj_type ?_ (by size_fits)
  simp only [raiseNew]
  refine wpAny_bind (wpAny_handled ?_)
  rw [show A.in1.handled = none from hh]
  refine wpAny_bind (wpAny_pure (wpAny_throw ?_))
  exact hE _ _ (((Heap.SameBut.update ..).extBut.push _).push _) ⟨_, Heap.get?_push_size _ rfl, rfl⟩
theorem src_vals {it d : Addr} {n ep : Nat} : Src prog w it [d] (fun k h => h.IsValIter it d k n ep) (fun xs h => ∃ kvs : List (K × Value), h.DictAt knd d kvs ep ∧ kvs.length = n ∧ xs = kvs.map (·.2)) where
  obj := fun k h st => by obtain ⟨o, e, _, dd⟩ := st; exact ⟨o, e, fun v q => by rw [dd] at q; cases q⟩
  keepN := fun k h h' st e => st.at e
  keepD := fun xs h h' st e => by obtain ⟨kvs, h1, h2⟩ := st; exact ⟨kvs, h1.at (e d (by simp)), h2⟩
  item := fun A E Q s k xs x h1 h2 hx hQ => by
    obtain ⟨kvs, h2, rfl, rfl⟩ := h2
    rw [List.getElem?_map] at hx
    obtain ⟨⟨a, b⟩, h3, rfl⟩ := Option.map_eq_some_iff.mp hx
    exact nextOf_vals_item h1 h2 h3 hQ
  done := fun A E Q s k xs hh h1 h2 hx hE => by
    obtain ⟨kvs, h2, rfl, rfl⟩ := h2
    rw [List.getElem?_map] at hx
    exact nextOf_vals_end hh h1 h2 (Option.map_eq_none_iff.mp hx) hE
end
structure Apart (z TI TO i1 i2 : Addr) (ks1 ks2 : List Addr) : Prop where
  TIz : TI ≠ z
  TOz : TO ≠ z
  i1z : i1 ≠ z
  i2z : i2 ≠ z
  TITO : TI ≠ TO
  TIi1 : TI ≠ i1
  TIi2 : TI ≠ i2
  TOi1 : TO ≠ i1
  TOi2 : TO ≠ i2
  i12 : i1 ≠ i2
  k1 : ∀ c ∈ ks1, c ≠ z ∧ c ≠ TO ∧ c ≠ i1 ∧ c ≠ i2
  k2 : ∀ c ∈ ks2, c ≠ z ∧ c ≠ TO ∧ c ≠ i1 ∧ c ≠ i2
theorem nne {a b : Nat} (h : a < b ∨ b < a) : (show Addr from a) ≠ (show Addr from b) := fun z => by
  have z : a = b := z
  omega
theorem apart (n : Nat) {ks1 ks2 : List Addr} (h1 : ∀ c ∈ ks1, Nat.lt c n) (h2 : ∀ c ∈ ks2, Nat.lt c n) : Apart (n + 4) (n + 2) (n + 3) n (n + 1) ks1 ks2 where
  TIz := nne (by omega)
  TOz := nne (by omega)
  i1z := nne (by omega)
  i2z := nne (by omega)
  TITO := nne (by omega)
  TIi1 := nne (by omega)
  TIi2 := nne (by omega)
  TOi1 := nne (by omega)
  TOi2 := nne (by omega)
  i12 := nne (by omega)
  k1 := fun c hc => by
    have e := h1 c hc
    exact ⟨nne (.inl (Nat.lt_of_lt_of_le e (Nat.le_add_right _ _))), nne (.inl (Nat.lt_of_lt_of_le e (Nat.le_add_right _ _))), nne (.inl e), nne (.inl (Nat.lt_of_lt_of_le e (Nat.le_add_right _ _)))⟩
  k2 := fun c hc => by
    have e := h2 c hc
    exact ⟨nne (.inl (Nat.lt_of_lt_of_le e (Nat.le_add_right _ _))), nne (.inl (Nat.lt_of_lt_of_le e (Nat.le_add_right _ _))), nne (.inl e), nne (.inl (Nat.lt_of_lt_of_le e (Nat.le_add_right _ _)))⟩
section
variable {prog : Program} {w : World} {A : Around} {E : Value → Shared → Prop} {s : Shared} {ks1 ks2 : List Addr} {N1 N2 : Nat → Heap → Prop} {D1 D2 : List Value → Heap → Prop}
theorem next_item {z TI TO i1 i2 : Addr} {k1 k2 : Nat} {xs ys : List Value} {x y a b : Value} {Q : Value → Shared → Prop} (D : Apart z TI TO i1 i2 ks1 ks2) (S1 : Src prog w i1 ks1 N1 D1) (S2 : Src prog w i2 ks2 N2 D2)
    (hz : IsZip s.heap z TI TO .none) (hTI : IsPair s.heap TI (.ref i1) (.ref i2)) (hTO : IsPair s.heap TO a b)
    (h1 : N1 k1 s.heap) (h2 : N2 k2 s.heap) (hl1 : D1 xs s.heap) (hl2 : D2 ys s.heap) (hx : xs[k1]? = some x) (hy : ys[k2]? = some y)
    (hQ : ∀ h', IsZip h' z TI TO (rawInt s.heap.objs.size) → IsPair h' TO x y → N1 (k1 + 1) h' → N2 (k2 + 1) h' → IsPair h' s.heap.objs.size x y → h'.objs.size = s.heap.objs.size + 1 →
      (∀ c o, c ≠ z → c ≠ TO → c ≠ i1 → c ≠ i2 → s.heap.get? c = some o → h'.get? c = some o) → Q (.ref s.heap.objs.size) { s with heap := h' }) :
    wpAny (model prog w) A (Builtin.«zip.__next__» ⟨[.ref z], []⟩) (fun fin s' => ∃ v, fin = .done (.ret v) ∧ Q v s') E s := by
  show wpAny _ _ (field (.ref z) 2 >>= _) _ _ _
  refine wpAny_bind (wpAny_field hz rfl (x := .bool false) rfl ?_)
  show wpAny _ _ (field (.ref z) 3 >>= _) _ _ _
  refine wpAny_bind (wpAny_field hz rfl (x := .ref TI) rfl ?_)
  refine wpAny_bind (wpAny_seqItems hTI rfl ?_)
  show wpAny _ _ (Builtin.SmallTypes.ownedTupleIsFree (.ref z) >>= _) _ _ _
  refine wpAny_bind ?_
  unfold Builtin.SmallTypes.ownedTupleIsFree
  refine wpAny_bind (wpAny_field hz rfl (x := .none) rfl (wpAny_pure ?_))
  simp only [if_true]
  refine wpAny_bind (wpAny_rule ?_)
  refine wpAny_bind (wpAny_field hz rfl (x := .ref TO) rfl ?_)
  refine wpAny_bind (wpAny_setField_rec hz (by simp) fun h₁ hz₁ hs₁ => ?_)
  replace hz₁ : IsZip h₁ z TI TO .ellipsis := hz₁
  refine wpAny_bind ?_
  simp only [List.zipIdx_cons, List.zipIdx_nil, List.forIn_cons, List.forIn_nil]
  refine wpAny_bind (wpAny_bind (wpAny_onRaise ?_))
  show wpAny _ _ (Builtin.SmallTypes.nextOf (.ref i1) >>= _) _ _ _
  refine wpAny_bind (S1.item _ _ _ _ _ _ _ (S1.keepN _ _ _ h1 fun o e => hs₁.extBut _ _ D.i1z e) (S1.keepD _ _ _ hl1 fun c hc o e => hs₁.extBut _ _ (D.k1 c hc).1 e) hx fun h₂ h1₂ hs₂ => wpAny_pure ?_)
  have hTO₂ : IsPair h₂ TO a b := hs₂.extBut _ _ D.TOi1 (hs₁.extBut _ _ D.TOz hTO)
  refine wpAny_bind (wpAny_seqItems hTO₂ rfl ?_)
  refine wpAny_bind (wpAny_updateSeq_pair hTO₂ fun h₃ hTO₃ hs₃ => ?_)
  replace hTO₃ : IsPair h₃ TO x b := hTO₃
  refine wpAny_bind (wpAny_letGo (wpAny_pure ?_))
  refine wpAny_bind (wpAny_bind (wpAny_onRaise ?_))
  show wpAny _ _ (Builtin.SmallTypes.nextOf (.ref i2) >>= _) _ _ _
  refine wpAny_bind (S2.item _ _ _ _ _ _ _ (S2.keepN _ _ _ h2 fun o e => hs₃.extBut _ _ D.TOi2.symm (hs₂.extBut _ _ D.i12.symm (hs₁.extBut _ _ D.i2z e)))
    (S2.keepD _ _ _ hl2 fun c hc o e => hs₃.extBut _ _ (D.k2 c hc).2.1 (hs₂.extBut _ _ (D.k2 c hc).2.2.1 (hs₁.extBut _ _ (D.k2 c hc).1 e))) hy fun h₄ h2₄ hs₄ => wpAny_pure ?_)
  have hTO₄ : IsPair h₄ TO x b := hs₄.extBut _ _ D.TOi2 hTO₃
  refine wpAny_bind (wpAny_seqItems hTO₄ rfl ?_)
  refine wpAny_bind (wpAny_updateSeq_pair hTO₄ fun h₅ hTO₅ hs₅ => ?_)
  replace hTO₅ : IsPair h₅ TO x y := hTO₅
  refine wpAny_bind (wpAny_letGo (wpAny_pure (wpAny_pure ?_)))
  refine wpAny_bind (wpAny_seqItems hTO₅ rfl ?_)
  refine wpAny_bind (wpAny_newTuple ?_)
  have hsz : h₅.objs.size = s.heap.objs.size := by rw [hs₅.1, hs₄.1, hs₃.1, hs₂.1, hs₁.1]
  have hz₅ : IsZip h₅ z TI TO .ellipsis := hs₅.extBut _ _ D.TOz.symm (hs₄.extBut _ _ D.i2z.symm (hs₃.extBut _ _ D.TOz.symm (hs₂.extBut _ _ D.i1z.symm hz₁)))
  have hk₅ : ∀ c o, c ≠ z → c ≠ TO → c ≠ i1 → c ≠ i2 → s.heap.get? c = some o → h₅.get? c = some o := fun c o c1 c2 c3 c4 e =>
    hs₅.extBut _ _ c2 (hs₄.extBut _ _ c4 (hs₃.extBut _ _ c2 (hs₂.extBut _ _ c3 (hs₁.extBut _ _ c1 e))))
  have h1₅ : N1 (k1 + 1) h₅ := S1.keepN _ _ _ h1₂ fun o e => hs₅.extBut _ _ D.TOi1.symm (hs₄.extBut _ _ D.i12 (hs₃.extBut _ _ D.TOi1.symm e))
  have h2₅ : N2 (k2 + 1) h₅ := S2.keepN _ _ _ h2₄ fun o e => hs₅.extBut _ _ D.TOi2.symm e
  have hzlt : z < h₅.objs.size := Heap.lt_size hz₅
  show wpAny _ _ (Builtin.SmallTypes.ownedTupleHandOut (.ref z) (.ref h₅.objs.size) >>= _) _ _ _
  refine wpAny_bind ?_
  unfold Builtin.SmallTypes.ownedTupleHandOut
  have hz₆ : IsZip (h₅.push { cls := .type "tuple", data := .seq #[x, y] }) z TI TO .ellipsis := Heap.get?_push_of_some _ hz₅
  refine wpAny_bind (wpAny_setField_rec hz₆ (by simp) fun h₇ hz₇ hs₇ => ?_)
  replace hz₇ : IsZip h₇ z TI TO (rawInt h₅.objs.size) := hz₇
  refine wpAny_setField_rec hz₇ (by simp) fun h₈ hz₈ hs₈ => ?_
  replace hz₈ : IsZip h₈ z TI TO (rawInt h₅.objs.size) := hz₈
  have up : ∀ c o, c ≠ z → h₅.get? c = some o → h₈.get? c = some o := fun c o c1 e => hs₈.extBut _ _ c1 (hs₇.extBut _ _ c1 (Heap.get?_push_of_some _ e))
  have hT₈ : IsPair h₈ h₅.objs.size x y := hs₈.extBut _ _ (Nat.ne_of_gt hzlt) (hs₇.extBut _ _ (Nat.ne_of_gt hzlt) (Heap.get?_push_size _ rfl))
  have hz8 : h₈.objs.size = h₅.objs.size + 1 := by rw [hs₈.1, hs₇.1, Heap.size_push]
  rw [hsz] at hz₈ hT₈ hz8
  refine wpAny_pure ⟨_, rfl, ?_⟩
  show Q (.ref h₅.objs.size) _
  rw [hsz]
  exact hQ h₈ hz₈ (up _ _ D.TOz hTO₅) (S1.keepN _ _ _ h1₅ fun o e => up _ o D.i1z e) (S2.keepN _ _ _ h2₅ fun o e => up _ o D.i2z e) hT₈ hz8 fun c o c1 c2 c3 c4 e => up c o c1 (hk₅ c o c1 c2 c3 c4 e)
theorem next_end {z TI TO i1 i2 : Addr} {k1 k2 : Nat} {xs ys : List Value} {a b : Value} {Q : Fin → Shared → Prop} (hh : A.handled = none) (D : Apart z TI TO i1 i2 ks1 ks2) (S1 : Src prog w i1 ks1 N1 D1) (S2 : Src prog w i2 ks2 N2 D2)
    (hz : IsZip s.heap z TI TO .none) (hTI : IsPair s.heap TI (.ref i1) (.ref i2)) (hTO : IsPair s.heap TO a b)
    (h1 : N1 k1 s.heap) (h2 : N2 k2 s.heap) (hl1 : D1 xs s.heap) (hl2 : D2 ys s.heap) (hend : xs[k1]? = none ∨ ys[k2]? = none)
    (hE : ∀ h' e, (∀ c o, c ≠ z → c ≠ TO → c ≠ i1 → c ≠ i2 → s.heap.get? c = some o → h'.get? c = some o) → (∃ o, h'.get? e = some o ∧ o.cls = .type "StopIteration") → E (.ref e) { s with heap := h' }) :
    wpAny (model prog w) A (Builtin.«zip.__next__» ⟨[.ref z], []⟩) Q E s := by
  show wpAny _ _ (field (.ref z) 2 >>= _) _ _ _
  refine wpAny_bind (wpAny_field hz rfl (x := .bool false) rfl ?_)
  show wpAny _ _ (field (.ref z) 3 >>= _) _ _ _
  refine wpAny_bind (wpAny_field hz rfl (x := .ref TI) rfl ?_)
  refine wpAny_bind (wpAny_seqItems hTI rfl ?_)
  show wpAny _ _ (Builtin.SmallTypes.ownedTupleIsFree (.ref z) >>= _) _ _ _
  refine wpAny_bind ?_
  unfold Builtin.SmallTypes.ownedTupleIsFree
  refine wpAny_bind (wpAny_field hz rfl (x := .none) rfl (wpAny_pure ?_))
  simp only [if_true]
  refine wpAny_bind (wpAny_rule ?_)
  refine wpAny_bind (wpAny_field hz rfl (x := .ref TO) rfl ?_)
  refine wpAny_bind (wpAny_setField_rec hz (by simp) fun h₁ hz₁ hs₁ => ?_)
  replace hz₁ : IsZip h₁ z TI TO .ellipsis := hz₁
  refine wpAny_bind ?_
  simp only [List.zipIdx_cons, List.zipIdx_nil, List.forIn_cons, List.forIn_nil]
  refine wpAny_bind (wpAny_bind (wpAny_onRaise ?_))
  show wpAny _ _ (Builtin.SmallTypes.nextOf (.ref i1) >>= _) _ _ _
  have n1 := S1.keepN _ _ _ h1 fun o e => hs₁.extBut _ _ D.i1z e
  have d1 := S1.keepD _ _ _ hl1 fun c hc o e => hs₁.extBut _ _ (D.k1 c hc).1 e
  cases hx : xs[k1]? with
  | none =>
    refine wpAny_bind (S1.done _ _ _ _ _ _ hh n1 d1 hx fun h₂ e hs₂ he => ?_)
    obtain ⟨oe, hoe, hce⟩ := he
    have hz₂ : IsZip h₂ z TI TO .ellipsis := hs₂ _ _ D.i1z.symm hz₁
    have hez : e ≠ z := fun x => by subst x; rw [hz₂] at hoe; cases hoe; simp at hce
    refine wpAny_setField_rec hz₂ (by simp) fun h₃ _ hs₃ => hE h₃ e (fun c o c1 _ c3 _ x => hs₃.extBut _ _ c1 (hs₂ _ _ c3 (hs₁.extBut _ _ c1 x))) ⟨oe, hs₃.extBut _ _ hez hoe, hce⟩
  | some x =>
    have hy : ys[k2]? = none := by rcases hend with h | h; rw [hx] at h; cases h; exact h
    refine wpAny_bind (S1.item _ _ _ _ _ _ _ n1 d1 hx fun h₂ h1₂ hs₂ => wpAny_pure ?_)
    have hTO₂ : IsPair h₂ TO a b := hs₂.extBut _ _ D.TOi1 (hs₁.extBut _ _ D.TOz hTO)
    refine wpAny_bind (wpAny_seqItems hTO₂ rfl ?_)
    refine wpAny_bind (wpAny_updateSeq_pair hTO₂ fun h₃ hTO₃ hs₃ => ?_)
    refine wpAny_bind (wpAny_letGo (wpAny_pure ?_))
    refine wpAny_bind (wpAny_bind (wpAny_onRaise ?_))
    show wpAny _ _ (Builtin.SmallTypes.nextOf (.ref i2) >>= _) _ _ _
    refine wpAny_bind (S2.done _ _ _ _ _ _ hh (S2.keepN _ _ _ h2 fun o e => hs₃.extBut _ _ D.TOi2.symm (hs₂.extBut _ _ D.i12.symm (hs₁.extBut _ _ D.i2z e)))
      (S2.keepD _ _ _ hl2 fun c hc o e => hs₃.extBut _ _ (D.k2 c hc).2.1 (hs₂.extBut _ _ (D.k2 c hc).2.2.1 (hs₁.extBut _ _ (D.k2 c hc).1 e))) hy fun h₄ e hs₄ he => ?_)
    obtain ⟨oe, hoe, hce⟩ := he
    have hz₄ : IsZip h₄ z TI TO .ellipsis := hs₄ _ _ D.i2z.symm (hs₃.extBut _ _ D.TOz.symm (hs₂.extBut _ _ D.i1z.symm hz₁))
    have hez : e ≠ z := fun x => by subst x; rw [hz₄] at hoe; cases hoe; simp at hce
    refine wpAny_setField_rec hz₄ (by simp) fun h₅ _ hs₅ => hE h₅ e (fun c o c1 c2 c3 c4 x => hs₅.extBut _ _ c1 (hs₄ _ _ c4 (hs₃.extBut _ _ c2 (hs₂.extBut _ _ c3 (hs₁.extBut _ _ c1 x))))) ⟨oe, hs₅.extBut _ _ hez hoe, hce⟩
theorem py_item {z TI TO i1 i2 : Addr} {k1 k2 : Nat} {xs ys : List Value} {x y a b : Value} {Q : Option Value → Shared → Prop} (D : Apart z TI TO i1 i2 ks1 ks2) (S1 : Src prog w i1 ks1 N1 D1) (S2 : Src prog w i2 ks2 N2 D2)
    (hz : IsZip s.heap z TI TO .none) (hTI : IsPair s.heap TI (.ref i1) (.ref i2)) (hTO : IsPair s.heap TO a b)
    (h1 : N1 k1 s.heap) (h2 : N2 k2 s.heap) (hl1 : D1 xs s.heap) (hl2 : D2 ys s.heap) (hx : xs[k1]? = some x) (hy : ys[k2]? = some y)
    (hQ : ∀ h', IsZip h' z TI TO (rawInt s.heap.objs.size) → IsPair h' TO x y → N1 (k1 + 1) h' → N2 (k2 + 1) h' → IsPair h' s.heap.objs.size x y → h'.objs.size = s.heap.objs.size + 1 →
      (∀ c o, c ≠ z → c ≠ TO → c ≠ i1 → c ≠ i2 → s.heap.get? c = some o → h'.get? c = some o) → Q (some (.ref s.heap.objs.size)) { s with heap := h' }) :
    wpAny (model prog w) A (pyNext (.ref z)) Q E s := by
  have hT : s.TypeIs (.ref z) "zip" := ⟨_, hz, rfl⟩
  unfold pyNext
  exact wpAny_bind (wpAny_attempt (wpAny_callSpecial?_slot (name := Str.ofString "__next__") hT F.slot_zip_next
    (wpAny_call_entry F.slot_zip_next hT F.entry_zip_next
      (next_item D S1 S2 hz hTI hTO h1 h2 hl1 hl2 hx hy fun h' a1 a2 a3 a4 a5 a6 a7 => wpAny_pure (hQ h' a1 a2 a3 a4 a5 a6 a7)) (F.args_zip_next_1 _))))
theorem py_end {z TI TO i1 i2 : Addr} {k1 k2 : Nat} {xs ys : List Value} {a b : Value} {Q : Option Value → Shared → Prop} (hh : A.handled = none) (D : Apart z TI TO i1 i2 ks1 ks2) (S1 : Src prog w i1 ks1 N1 D1) (S2 : Src prog w i2 ks2 N2 D2)
    (hz : IsZip s.heap z TI TO .none) (hTI : IsPair s.heap TI (.ref i1) (.ref i2)) (hTO : IsPair s.heap TO a b)
    (h1 : N1 k1 s.heap) (h2 : N2 k2 s.heap) (hl1 : D1 xs s.heap) (hl2 : D2 ys s.heap) (hend : xs[k1]? = none ∨ ys[k2]? = none)
    (hQ : ∀ h', (∀ c o, c ≠ z → c ≠ TO → c ≠ i1 → c ≠ i2 → s.heap.get? c = some o → h'.get? c = some o) → Q none { s with heap := h' }) : wpAny (model prog w) A (pyNext (.ref z)) Q E s := by
  have hT : s.TypeIs (.ref z) "zip" := ⟨_, hz, rfl⟩
  unfold pyNext
  refine wpAny_bind (wpAny_attempt (wpAny_callSpecial?_slot (name := Str.ofString "__next__") hT F.slot_zip_next
    (wpAny_call_entry F.slot_zip_next hT F.entry_zip_next (next_end hh D S1 S2 hz hTI hTO h1 h2 hl1 hl2 hend fun h' e hk he => ?_) (F.args_zip_next_1 _))))
  obtain ⟨o, ho, hc⟩ := he
  refine wpAny_bind (wpAny_isInstance (T := "StopIteration") (b := true) ⟨o, ho, hc⟩ isSubtype_stop ?_)
  exact wpAny_pure (hQ _ hk)
end
/-- pyIter of v lays one object -/
def Lays (P : Program) (w : World) (h : Heap) (v : Value) (o : Obj) : Prop := ∀ (A : Around) (E Q : Value → Shared → Prop) (s : Shared), s.heap = h → Q (.ref h.objs.size) { s with heap := h.push o } → wpAny (model P w) A (pyIter v) Q E s
abbrev zH2 (h : Heap) (o1 o2 : Obj) : Heap := (h.push o1).push o2
abbrev zH3 (h : Heap) (o1 o2 : Obj) : Heap := (zH2 h o1 o2).push { cls := .type "tuple", data := .seq #[.ref h.objs.size, .ref (h.push o1).objs.size] }
abbrev zH4 (h : Heap) (o1 o2 : Obj) : Heap := (zH3 h o1 o2).push { cls := .type "tuple", data := .seq #[.none, .none] }
abbrev zH5 (h : Heap) (o1 o2 : Obj) : Heap := (zH4 h o1 o2).push { cls := .type "zip", data := .fields #[.none, .bool false, .bool false, .ref (zH2 h o1 o2).objs.size, .ref (zH3 h o1 o2).objs.size] }
theorem meets_new {prog : Program} {w : World} (a1 a2 : Addr) (o1 o2 : Obj) :
    MeetsIn prog w (Builtin.«zip.__new__» ⟨[.type "zip", .ref a1, .ref a2], []⟩) (fun _ R s => Lays prog w s.heap (.ref a1) o1 ∧ Lays prog w (s.heap.push o1) (.ref a2) o2 ∧
      R (.ok (.ret (.ref (zH4 s.heap o1 o2).objs.size))) { s with heap := zH5 s.heap o1 o2 }) :=
  .of_wp fun A R s h => by
    obtain ⟨hp, g, d, tk, os⟩ := s; obtain ⟨hl1, hl2, h⟩ := h
    have hsub := sub_zip
    have hL1 : ∀ {A : Around} {E Q : Value → Shared → Prop}, Q (.ref hp.objs.size) ⟨hp.push o1, g, d, tk, os⟩ → wpAny (model prog w) A (pyIter (.ref a1)) Q E ⟨hp, g, d, tk, os⟩ := fun {A E Q} q => hl1 A E Q ⟨hp, g, d, tk, os⟩ rfl q
    have hL2 : ∀ {A : Around} {E Q : Value → Shared → Prop}, Q (.ref (hp.push o1).objs.size) ⟨(hp.push o1).push o2, g, d, tk, os⟩ → wpAny (model prog w) A (pyIter (.ref a2)) Q E ⟨hp.push o1, g, d, tk, os⟩ := fun {A E Q} q => hl2 A E Q ⟨hp.push o1, g, d, tk, os⟩ rfl q
    wp_walk using hL1, hL2
    exact ⟨_, rfl, h⟩
end L2.Zg

namespace L2.Zg
open PySem PySem.Spec PyProof.Rows L2
open PySem.Sem (wp)
section
variable {prog : Program} {w : World} {A : Around} {E : Value → Shared → Prop} {s : Shared}
theorem call_zip2 {a1 a2 : Addr} {o1 o2 : Obj} {Q : Value → Shared → Prop} (hl1 : Lays prog w s.heap (.ref a1) o1) (hl2 : Lays prog w (s.heap.push o1) (.ref a2) o2) (f1 : o1.isFreed = false) (f2 : o2.isFreed = false)
    (h : ∀ h', IsZip h' (s.heap.objs.size + 4) (s.heap.objs.size + 2) (s.heap.objs.size + 3) .none → IsPair h' (s.heap.objs.size + 2) (.ref s.heap.objs.size) (.ref (s.heap.objs.size + 1)) →
      IsPair h' (s.heap.objs.size + 3) .none .none → h'.get? s.heap.objs.size = some o1 → h'.get? (s.heap.objs.size + 1) = some o2 → h'.objs.size = s.heap.objs.size + 5 →
      (∀ c o, s.heap.get? c = some o → h'.get? c = some o) → Q (.ref (s.heap.objs.size + 4)) { s with heap := h' }) :
    wpAny (model prog w) A (call (.type "zip") [.ref a1, .ref a2]) Q E s := by
  refine callType_newIn F.called_zip (by decide) (F.typeCall_zip_2 _ _) (F.newCall_zip_2 _ _) (fun obj => F.args_object_init_3 obj _ _) F.entry_zip_new
    (meets_new a1 a2 o1 o2) ⟨hl1, hl2, ?_⟩
  have z1 : (s.heap.push o1).objs.size = s.heap.objs.size + 1 := Heap.size_push ..
  have z2 : (zH2 s.heap o1 o2).objs.size = s.heap.objs.size + 2 := by rw [Heap.size_push, z1]
  have z3 : (zH3 s.heap o1 o2).objs.size = s.heap.objs.size + 3 := by rw [Heap.size_push, z2]
  have z4 : (zH4 s.heap o1 o2).objs.size = s.heap.objs.size + 4 := by rw [Heap.size_push, z3]
  have z5 : (zH5 s.heap o1 o2).objs.size = s.heap.objs.size + 5 := by rw [Heap.size_push, z4]
  have g5 : (zH5 s.heap o1 o2).get? (zH4 s.heap o1 o2).objs.size = some _ := Heap.get?_push_size _ rfl
  have g4 : (zH5 s.heap o1 o2).get? (zH3 s.heap o1 o2).objs.size = some _ := Heap.get?_push_of_some _ (Heap.get?_push_size _ rfl)
  have g3 : (zH5 s.heap o1 o2).get? (zH2 s.heap o1 o2).objs.size = some _ := Heap.get?_push_of_some _ (Heap.get?_push_of_some _ (Heap.get?_push_size _ rfl))
  have g2 : (zH5 s.heap o1 o2).get? (s.heap.push o1).objs.size = some _ := Heap.get?_push_of_some _ (Heap.get?_push_of_some _ (Heap.get?_push_of_some _ (Heap.get?_push_size _ f2)))
  have g1 : (zH5 s.heap o1 o2).get? s.heap.objs.size = some _ := Heap.get?_push_of_some _ (Heap.get?_push_of_some _ (Heap.get?_push_of_some _ (Heap.get?_push_of_some _ (Heap.get?_push_size _ f1))))
  show _ ∧ _
  rw [z2, z3, z4] at g5
  rw [z1, z2] at g3
  rw [z3] at g4
  rw [z1] at g2
  rw [z4]
  exact ⟨⟨_, g5, rfl⟩, h _ g5 g3 g4 g1 g2 z5 fun c o x =>
    Heap.get?_push_of_some _ (Heap.get?_push_of_some _ (Heap.get?_push_of_some _ (Heap.get?_push_of_some _ (Heap.get?_push_of_some _ x))))⟩
end
/-- what a source walks, as the tracked heap tells it -/
structure VSrc (P : Program) (w : World) (K : PySem.W.Frag) (it : Addr) (ks : List Addr) (N : Nat → Heap → Prop) (Dt : List Value → Heap → Prop) (S : Hp → List V → Prop) : Prop where
  src : Src P w it ks N Dt
  sem : ∀ (X : Cx), X.prog = P → X.w = w → X.K = K → ∀ (pins : List (Addr × Obj)) (σ : L2.St) (H : Hp) (s : Shared) (xs : List V), Inv X pins σ H s → S H xs → ∃ us, Vals xs us ∧ Dt us s.heap
  inj : ∀ (X : Cx), X.prog = P → X.w = w → X.K = K → ∀ (pins : List (Addr × Obj)) (σ : L2.St) (H : Hp) (s : Shared) (xs ys : List V), Inv X pins σ H s → S H xs → S H ys → xs = ys
def Itz2 (S1 S2 : Hp → List V → Prop) : It :=
  ⟨fun i H => ∃ (xs ys : List V) (x y : V), S1 H xs ∧ S2 H ys ∧ xs[i]? = some x ∧ ys[i]? = some y,
    fun i H v H' => ∃ T x y, v = .ref T ∧ H T = none ∧ H' = upd H T (.tup [x, y]) ∧ (∀ xs, S1 H xs → xs[i]? = some x) ∧ ∀ ys, S2 H ys → ys[i]? = some y,
    fun i H => ∃ xs ys : List V, S1 H xs ∧ S2 H ys ∧ (xs.length ≤ i ∨ ys.length ≤ i)⟩
theorem turn2 {P : Program} {w : World} {K : PySem.W.Frag} {elts : List Expr} {kk : Nat} {tpos : Pos} {z TI TO i1 i2 : Addr} {ks1 ks2 : List Addr} {N1 N2 : Nat → Heap → Prop} {D1 D2 : List Value → Heap → Prop} {S1 S2 : Hp → List V → Prop}
    (D : Apart z TI TO i1 i2 ks1 ks2) (V1 : VSrc P w K i1 ks1 N1 D1 S1) (V2 : VSrc P w K i2 ks2 N2 D2 S2) :
    Turn P w K (.Tuple elts kk tpos) (Itz2 S1 S2) [z, TI, TO, i1, i2] z (fun i h => IsZip h z TI TO .none ∧ IsPair h TI (.ref i1) (.ref i2) ∧ (∃ x y, IsPair h TO x y) ∧ N1 i h ∧ N2 i h) where
  mem := by simp
  obj := fun i h st c hc => by
    obtain ⟨hz, hTI, ⟨x, y, hTO⟩, n1, n2⟩ := st
    have e' : c = z ∨ c = TI ∨ c = TO ∨ c = i1 ∨ c = i2 := by simpa using hc
    rcases e' with q | q | q | q | q
    · rw [q]; exact ⟨_, hz, fun v q => nomatch q⟩
    · rw [q]; exact ⟨_, hTI, fun v q => nomatch q⟩
    · rw [q]; exact ⟨_, hTO, fun v q => nomatch q⟩
    · rw [q]; exact V1.src.obj _ _ n1
    · rw [q]; exact V2.src.obj _ _ n2
  keep := fun i h h' st k => by
    obtain ⟨hz, hTI, ⟨x, y, hTO⟩, h1, h2⟩ := st
    exact ⟨k z (by simp) _ hz, k TI (by simp) _ hTI, ⟨x, y, k TO (by simp) _ hTO⟩, V1.src.keepN _ _ _ h1 fun o q => k i1 (by simp) o q, V2.src.keepN _ _ _ h2 fun o q => k i2 (by simp) o q⟩
  item := by
    intro X hP hw hK hc i pins s σ H E I hf st hg
    subst hP hw hK
    obtain ⟨hz, hTI, ⟨x0, y0, hTO⟩, h1, h2⟩ := st
    obtain ⟨xs, ys, x, y, hqx, hqy, hx, hy⟩ := hg
    obtain ⟨us, rv, p⟩ := V1.sem X rfl rfl rfl _ _ _ _ _ I hqx
    obtain ⟨us2, rv2, p2⟩ := V2.sem X rfl rfl rfl _ _ _ _ _ I hqy
    obtain ⟨u, hu, ru⟩ := rv.get hx
    obtain ⟨u2, hu2, ru2⟩ := rv2.get hy
    have hzl : z < s.heap.objs.size := Heap.lt_size hz
    obtain ⟨b1, hb1, _⟩ := V1.src.obj _ _ h1
    obtain ⟨b2, hb2, _⟩ := V2.src.obj _ _ h2
    refine py_item D V1.src V2.src hz hTI hTO h1 h2 p p2 hu hu2 fun h' z' TO' h1' h2' hT hsz hk => ?_
    refine ⟨_, rfl, wpAny_letOwnedTupleGo_zip (s := { s with heap := h' }) z' fun h'' z'' sb => ?_⟩
    have hT2 : h''.get? s.heap.objs.size = some { cls := .type "tuple", data := .seq #[u, u2] } := (sb.2 _ (Nat.ne_of_gt hzl)).trans hT
    have new : ObjOk X.prog X.w (upd H s.heap.objs.size (.tup [x, y])) h'' s.heap.objs.size (.tup [x, y]) :=
      ⟨by show 2 ≤ sizeLine; decide, [u, u2], .cons ru (.cons ru2 .nil), ⟨_, hT2, rfl, _, rfl⟩⟩
    have I1 : Inv X pins σ (upd H s.heap.objs.size (.tup [x, y])) { s with heap := h'' } :=
      I.turnedNew (t' := s.toks) (ch := [z, TI, TO, i1, i2]) (fun c o hb q => (sb.2 c (fun q' => hb (by simp [q']))).trans (hk c o (fun q' => hb (by simp [q'])) (fun q' => hb (by simp [q'])) (fun q' => hb (by simp [q'])) (fun q' => hb (by simp [q'])) q)) hf (Nat.le_refl _) new
    refine ⟨.ref s.heap.objs.size, _, I1, rfl, ⟨_, x, y, rfl, I.hok.fresh (Nat.le_refl _), rfl, fun l hl => by rw [V1.inj X rfl rfl rfl _ _ _ _ _ _ I hl hqx]; exact hx, fun l hl => by rw [V2.inj X rfl rfl rfl _ _ _ _ _ _ I hl hqy]; exact hy⟩, ⟨z'', ?_, ⟨u, u2, ?_⟩, ?_, ?_⟩, fun c hcm => ?_⟩
    · exact (sb.2 _ D.TIz).trans (hk _ _ D.TIz D.TITO D.TIi1 D.TIi2 hTI)
    · exact (sb.2 _ D.TOz).trans TO'
    · exact V1.src.keepN _ _ _ h1' fun o q => (sb.2 _ D.i1z).trans q
    · exact V2.src.keepN _ _ _ h2' fun o q => (sb.2 _ D.i2z).trans q
    · have hlt : c < s.heap.objs.size := by
        have e' : c = z ∨ c = TI ∨ c = TO ∨ c = i1 ∨ c = i2 := by simpa using hcm
        rcases e' with q | q | q | q | q
        · rw [q]; exact hzl
        · rw [q]; exact Heap.lt_size hTI
        · rw [q]; exact Heap.lt_size hTO
        · rw [q]; exact Heap.lt_size hb1
        · rw [q]; exact Heap.lt_size hb2
      rw [upd_ne (Nat.ne_of_lt hlt)]
      exact (hf c hcm).1
  done := by
    intro X hP hw hK hc i pins s σ H E I hf st hg
    subst hP hw hK
    obtain ⟨hz, hTI, ⟨x0, y0, hTO⟩, h1, h2⟩ := st
    obtain ⟨xs, ys, hqx, hqy, hend⟩ := hg
    obtain ⟨us, rv, p⟩ := V1.sem X rfl rfl rfl _ _ _ _ _ I hqx
    obtain ⟨us2, rv2, p2⟩ := V2.sem X rfl rfl rfl _ _ _ _ _ I hqy
    have l1 := rv.length
    have l2 := rv2.length
    have he : us[i]? = none ∨ us2[i]? = none := by
      rcases hend with q | q
      · exact .inl (List.getElem?_eq_none (by omega))
      · exact .inr (List.getElem?_eq_none (by omega))
    exact py_end (I.ok.hd hc) D V1.src V2.src hz hTI hTO h1 h2 p p2 he fun h' hk => ⟨rfl, I.turnedL (t' := s.toks) (ch := [z, TI, TO, i1, i2]) (fun c o hb q =>
      hk c o (fun q' => hb (by simp [q'])) (fun q' => hb (by simp [q'])) (fun q' => hb (by simp [q'])) (fun q' => hb (by simp [q'])) q) hf⟩
  self := fun A i s Q E st h => wpAny_pyIter_zip st.1 h
theorem vs_lst {P : Program} {w : World} {K : PySem.W.Frag} {it l : Addr} : VSrc P w K it [l] (fun k h => h.IsListIter it l k) (fun xs h => h.IsList l xs.toArray) (fun H xs => SqL K H l xs) where
  src := src_lst
  sem := fun X hP hw hK pins σ H s xs I q => by
    subst hP hw hK
    obtain ⟨its, rv, p, _⟩ := I.list q
    exact ⟨its, rv, p.isList⟩
  inj := fun X hP hw hK pins σ H s xs ys I q q2 => by
    subst hP hw hK
    exact I.list_inj q q2
theorem vs_tup {P : Program} {w : World} {K : PySem.W.Frag} {it l : Addr} : VSrc P w K it [l] (fun k h => h.IsTupleIter it l k) (fun xs h => h.IsTuple l xs.toArray) (fun H xs => SqT K H l xs) where
  src := src_tup
  sem := fun X hP hw hK pins σ H s xs I q => by
    subst hP hw hK
    obtain ⟨its, rv, p, _⟩ := I.tuple q
    exact ⟨its, rv, p⟩
  inj := fun X hP hw hK pins σ H s xs ys I q q2 => by
    subst hP hw hK
    exact I.tuple_inj q q2
theorem kv_vals {κ : Type} {kvs : List (κ × V)} {vs : List (κ × Value)} (h : KV kvs vs) : Vals (kvs.map (·.2)) (vs.map (·.2)) := by
  unfold KV at h
  induction h with
  | nil => exact .nil
  | cons r t ih => exact .cons r.2 ih
theorem vs_vals {P : Program} {w : World} {K : PySem.W.Frag} {it d : Addr} {o : Obj} {es : Array DictEntry} {ep : Nat} (hod : o.data = .dict es ep) :
    VSrc P w K it [d] (fun k h => h.IsValIter it d k es.size ep) (fun xs h => ∃ kvs : List (Key × Value), h.DictAt (mixKind P w) d kvs ep ∧ kvs.length = es.size ∧ xs = kvs.map (·.2)) (fun H xs => ∃ kvs, H d = some (.frz o (.dK kvs)) ∧ xs = kvs.map (·.2)) where
  src := src_vals
  sem := fun X hP hw hK pins σ H s xs I q => by
    subst hP hw hK
    obtain ⟨kvs, q, rfl⟩ := q
    obtain ⟨hs, hgd, hx, es', ep', vs, hdt, hsz, kv, hm⟩ := I.frzK q
    rw [hod] at hdt
    cases hdt
    exact ⟨vs.map (·.2), kv_vals kv, vs, hm, by rw [hsz]; exact (Paired.length kv).symm, rfl⟩
  inj := fun X hP hw hK pins σ H s xs ys I q q2 => by
    obtain ⟨kvs, q, rfl⟩ := q
    obtain ⟨kvs2, q2, rfl⟩ := q2
    rw [q] at q2
    cases q2
    rfl
theorem lays_lst {P : Program} {w : World} {h : Heap} {l : Addr} {xs : Array Value} (hl : h.IsList l xs) : Lays P w h (.ref l) { cls := .type "list_iterator", data := .fields #[.ref l, .int 0 0] } := fun A E Q s e q => by
  subst e
  exact wpAny_pyIter_list hl q
theorem lays_tup {P : Program} {w : World} {h : Heap} {l : Addr} {xs : Array Value} (hl : h.IsTuple l xs) : Lays P w h (.ref l) { cls := .type "tuple_iterator", data := .fields #[.ref l, .int 0 0] } := fun A E Q s e q => by
  subst e
  exact wpAny_pyIter_tuple hl q
theorem lays_vals {P : Program} {w : World} {h : Heap} {v d : Addr} {kvs : List (Key × Value)} {ep n : Nat} (hv : h.IsValuesView v d) (hm : h.DictAt (mixKind P w) d kvs ep) (hn : kvs.length = n) :
    Lays P w h (.ref v) { cls := .type "dict_valueiterator", data := .fields #[.ref d, .int 0 0, .int n 0, .int ep 0] } := fun A E Q s e q => by
  subst e
  subst hn
  exact wpAny_pyIter_values hv hm q
/-- zip(d.values(), list or tuple), d known as it stands -/
def iZipV (K : PySem.W.Frag) (td tb : TE) : TI := fun σ H R => td σ H fun x H1 => ∃ d o kvs, x = .ref d ∧ H1 d = some (.frz o (.dK kvs)) ∧ tb σ H1 fun y H2 => ∃ b ys, y = .ref b ∧ H2 d = some (.frz o (.dK kvs)) ∧
  ((SqL K H2 b ys ∧ R (Itz2 (fun H xs => ∃ kvs, H d = some (.frz o (.dK kvs)) ∧ xs = kvs.map (·.2)) (fun H xs => SqL K H b xs)) H2) ∨
   (SqT K H2 b ys ∧ R (Itz2 (fun H xs => ∃ kvs, H d = some (.frz o (.dK kvs)) ∧ xs = kvs.map (·.2)) (fun H xs => SqT K H b xs)) H2))
theorem pin_new {X : Cx} {pins : List (Addr × Obj)} {σ : L2.St} {H : Hp} {s : Shared} {o : Obj} {h' : Heap} {a : Addr} {t' : Nat} (I : Inv X pins σ H s) (k : ∀ b u, s.heap.get? b = some u → h'.get? b = some u) (ha : s.heap.objs.size ≤ a) (ho : h'.get? a = some o) (hc : ∀ v, o.data ≠ .cell v) :
    Inv X ((a, o) :: pins) σ H { s with heap := h', toks := t' } := by
  have J := I.kept (t' := t') k
  refine J.pins_of fun p hp => ?_
  cases hp with
  | head => exact ⟨ho, I.hok.fresh ha, Nat.ne_of_gt (Nat.lt_of_lt_of_le I.lt ha), I.nofs ha, hc⟩
  | tail _ h => exact J.pin p (List.mem_append_right _ h)
theorem pin_off {X : Cx} {pins : List (Addr × Obj)} {σ : L2.St} {H : Hp} {s : Shared} {p : Addr × Obj} (I : Inv X (p :: pins) σ H s) : Inv X pins σ H s ∧ s.heap.get? p.1 = some p.2 :=
  ⟨I.pins_of fun r hr => I.pin r (List.mem_append_right _ (List.mem_cons_of_mem _ hr)), (I.pin p (List.mem_append_right _ List.mem_cons_self)).1⟩
def viewOf (d : Addr) : Obj := { cls := .type "dict_values", data := .fields #[.ref d] }
theorem pi_zipV {X : Cx} {e e2 : Expr} {td tb : TE} {p pos tpos apos cpos : Pos} {elts : List Expr} {kk : Nat} (hg : Gl X "zip") (hm : X.mg "zip" = none) (ha : PE X e td) (hb : PE X e2 tb)
    (hbase : attributeBase e "values" X.env (eval e X.env) = eval e X.env := by rfl) (hline : (apos.endLine == cpos.line) = true := by rfl)
    (hs2 : starEach [e2] X.env = (false, eval e2 X.env) :: starEach [] X.env := by rfl)
    (hs : starEach [.Call (.Attribute e "values" apos) [] [] cpos, e2] X.env = (false, eval (.Call (.Attribute e "values" apos) [] [] cpos) X.env) :: starEach [e2] X.env := by rfl) (hpl : (backTo pos (starEach [e2] X.env)).any (·.1) = false := by rfl) :
    PI X (.Tuple elts kk tpos) (.Call (.Name "zip" p) [.Call (.Attribute e "values" apos) [] [] cpos, e2] [] pos) (iZipV X.K td tb) := by
  refine ⟨fun pins s σ H R I h => ?_⟩
  refine Call_ (ld_blt I hg hm PyProof.Rows.boot_zip (PyProof.Rows.callWith_type1 (PyProof.Rows.args_cons ?_ hs) hs hpl))
  refine wpAny_Call_method (T := "dict") (id := "dict.values") hbase rfl hline F.plainAttrs_dict F.slot_dict_values F.type_dict_values (thn (ha.run pins s σ H _ I h) fun u s1 ⟨x, H1, I1, rx, d, o, kvs, ex, hd, q⟩ => ?_)
  subst ex
  obtain rfl : u = Value.ref d := rx
  obtain ⟨hsm, hgd, hx, es, ep, vs, hdt, hsz, kv, hmm⟩ := I1.frzK hd
  refine ⟨hmm.dictOf.typeIs, hmm.dictOf.mapOf.noDict, ?_⟩
  let v := s1.heap.objs.size
  have I2 : Inv X ((v, viewOf d) :: pins) σ H1 { s1 with heap := s1.heap.push (viewOf d) } := pin_new (t' := s1.toks) I1 (fun b ob q => Heap.get?_push_of_some _ q) (Nat.le_refl _) (Heap.get?_push_size _ rfl) fun v z => nomatch z
  have fin : wpAny (model X.prog X.w) X.A (spliced (backTo pos (starEach [e2] X.env))) (fun vs s₂ => wpAny (model X.prog X.w) X.A (call (.type "zip") (Value.ref v :: vs)) (fun z s3 => wpAny (model X.prog X.w) X.A (pyIter z) (PIE X pins σ (.Tuple elts kk tpos) R) X.xe s3) X.xe s₂) X.xe { s1 with heap := s1.heap.push (viewOf d) } := by
    refine PyProof.Rows.args_cons (thn (hb.run _ _ σ H1 _ I2 q) fun u2 s2 ⟨y, H2, I3, ry, q2⟩ => PyProof.Rows.args_nil ?_) hs2
    obtain ⟨b, ys, rfl, hd2, q2⟩ := q2
    obtain rfl : u2 = Value.ref b := ry
    have hv : s2.heap.get? v = some (viewOf d) := (pin_off I3).2
    have J : Inv X pins σ H2 s2 := (pin_off I3).1
    obtain ⟨_, hgd2, _, es2, ep2, vs2, hdt2, hsz2, kv2, hmm2⟩ := J.frzK hd2
    rw [hdt] at hdt2
    cases hdt2
    have hn2 : vs2.length = es.size := by rw [hsz2]; exact (Paired.length kv2).symm
    have fresh5 : ∀ c, c ∈ [s2.heap.objs.size + 4, s2.heap.objs.size + 2, s2.heap.objs.size + 3, s2.heap.objs.size, s2.heap.objs.size + 1] → FpOk X pins H2 c := fun c hcm => by
      have e' : c = s2.heap.objs.size + 4 ∨ c = s2.heap.objs.size + 2 ∨ c = s2.heap.objs.size + 3 ∨ c = s2.heap.objs.size ∨ c = s2.heap.objs.size + 1 := by simpa using hcm
      have hle : s2.heap.objs.size ≤ c := by
        rcases e' with z | z | z | z | z
        · rw [z]; exact Nat.le_add_right _ _
        · rw [z]; exact Nat.le_add_right _ _
        · rw [z]; exact Nat.le_add_right _ _
        · rw [z]; exact Nat.le_refl _
        · rw [z]; exact Nat.le_add_right _ _
      exact J.fpOk hle (J.hok.fresh hle)
    have l1 := lays_vals (P := X.prog) (w := X.w) (h := s2.heap) (v := v) ⟨_, hv, rfl, rfl⟩ hmm2 hn2
    have kd : ∀ c ∈ [d], Nat.lt c s2.heap.objs.size := fun c hc => by rw [List.mem_singleton.mp hc]; exact Heap.lt_size hgd2
    rcases q2 with ⟨hqy, q⟩ | ⟨hqy, q⟩
    · obtain ⟨its2, rv2, p2, _⟩ := J.list hqy
      have kb : ∀ c ∈ [b], Nat.lt c s2.heap.objs.size := fun c hc => by rw [List.mem_singleton.mp hc]; exact p2.lt
      refine call_zip2 l1 (lays_lst (p2.isList.push _)) rfl rfl fun h' hz hTI hTO h1 h2 hsz hk => wpAny_pyIter_zip hz ?_
      have I4 : Inv X pins σ H2 { s2 with heap := h' } := J.kept (t' := s2.toks) hk
      exact ⟨s2.heap.objs.size + 4, [s2.heap.objs.size + 4, s2.heap.objs.size + 2, s2.heap.objs.size + 3, s2.heap.objs.size, s2.heap.objs.size + 1], _, _, H2, rfl, I4, turn2 (apart s2.heap.objs.size kd kb) (vs_vals hdt) vs_lst, ⟨hz, hTI, ⟨_, _, hTO⟩, ⟨_, h1, rfl, rfl⟩, ⟨_, h2, rfl, rfl⟩⟩, fresh5, q⟩
    · obtain ⟨its2, rv2, p2, _⟩ := J.tuple hqy
      obtain ⟨o2, ho2, _⟩ := id p2
      have kb : ∀ c ∈ [b], Nat.lt c s2.heap.objs.size := fun c hc => by rw [List.mem_singleton.mp hc]; exact Heap.lt_size ho2
      refine call_zip2 l1 (lays_tup (p2.push _)) rfl rfl fun h' hz hTI hTO h1 h2 hsz hk => wpAny_pyIter_zip hz ?_
      have I4 : Inv X pins σ H2 { s2 with heap := h' } := J.kept (t' := s2.toks) hk
      exact ⟨s2.heap.objs.size + 4, [s2.heap.objs.size + 4, s2.heap.objs.size + 2, s2.heap.objs.size + 3, s2.heap.objs.size, s2.heap.objs.size + 1], _, _, H2, rfl, I4, turn2 (apart s2.heap.objs.size kd kb) (vs_vals hdt) vs_tup, ⟨hz, hTI, ⟨_, _, hTO⟩, ⟨_, h1, rfl, rfl⟩, ⟨_, h2, rfl, rfl⟩⟩, fresh5, q⟩
  show wpAny _ _ (callWith cpos (.builtin "dict.values") [.ref d] [] []) _ X.xe s1
  exact method_meetsIn F.slot_dict_values F.entry_dict_values rfl (PySem.evalArgs_none ⟨rfl, hmm.dictOf.typeIs, F.args_dict_values_1 _, _, meets_dict_values (mixKind X.prog X.w) d hsm, ⟨vs, hmm.dictOf⟩, fin⟩)
end L2.Zg

namespace L2.Tr
open PySem PySem.Spec PyProof.Rows
/-! plain data: it stays as it is where only other things change -/
mutual
def plainD : D → Bool
  | .leaf _ => true
  | .seq _ ds => plainDs ds
  | .dct _ _ => false
  | .obj _ _ _ => false
  | .frz _ _ => false
def plainDs : List D → Bool
  | [] => true
  | d :: ds => plainD d && plainDs ds
end
/-- lists and tuples stay -/
def ExS (G G' : Hp) : Prop := ∀ a b us, G a = some (mkS b us) → G' a = some (mkS b us)
mutual
theorem Rep.plain {G G' : Hp} (e : ExS G G') : ∀ {d : D} {v : V}, plainD d = true → Rep G d v → Rep G' d v
  | .leaf x, v, _, h => by obtain ⟨rfl, l⟩ := h.un_lf; exact .lf l
  | .seq b ds, v, p, h => by
    obtain ⟨a, us, rfl, h1, h2, h3⟩ := h.un_sq
    exact .sq (e _ _ _ h1) h2 (Reps.plain e (by simpa [plainD] using p) h3)
  | .dct _ _, v, p, h => by simp [plainD] at p
  | .obj _ _ _, v, p, h => by simp [plainD] at p
  | .frz _ _, v, p, h => by simp [plainD] at p
theorem Reps.plain {G G' : Hp} (e : ExS G G') : ∀ {ds : List D} {us : List V}, plainDs ds = true → Reps G ds us → Reps G' ds us
  | [], us, _, h => by rw [h.un0]; exact .nil
  | d :: ds, us, p, h => by
    obtain ⟨u, r, rfl, q, t⟩ := h.un
    simp only [plainDs, Bool.and_eq_true] at p
    exact .cons (Rep.plain e p.1 q) (Reps.plain e p.2 t)
end
def cutSl : Sl → Sl
  | .pu d => if plainD d = true then .pu d else .un
  | _ => .un
def cutE (ρ : Env) : Env := ρ.map cutSl
theorem cut_get {ρ : Env} {i : Nat} {d : D} (h : (cutE ρ)[i]? = some (.pu d)) : ρ[i]? = some (.pu d) ∧ plainD d = true := by
  unfold cutE at h
  rw [List.getElem?_map] at h
  obtain ⟨s, h1, h2⟩ := Option.map_eq_some_iff.mp h
  cases s with
  | un => cases h2
  | ow _ => cases h2
  | pu d2 =>
    unfold cutSl at h2
    simp only at h2
    split at h2
    · rename_i hp; cases h2; exact ⟨h1, hp⟩
    · cases h2
theorem cut_ow {ρ : Env} {i : Nat} {d : D} (h : (cutE ρ)[i]? = some (.ow d)) : False := by
  unfold cutE at h
  rw [List.getElem?_map] at h
  obtain ⟨s, h1, h2⟩ := Option.map_eq_some_iff.mp h
  cases s with
  | un => cases h2
  | ow _ => cases h2
  | pu d2 =>
    unfold cutSl at h2
    simp only at h2
    split at h2 <;> cases h2
theorem EnvOk.cut {G H G' H' : Hp} {σ : St} {ρ : Env} (x : EnvOk G H σ ρ) (e : ExS G G') (gh : Ex G' H') : EnvOk G' H' σ (cutE ρ) :=
  ⟨gh, by unfold cutE; rw [List.length_map]; exact x.len, fun i d h => by
    obtain ⟨h1, h2⟩ := cut_get h
    obtain ⟨v, h3, h4⟩ := x.pu i d h1
    exact ⟨v, h3, Rep.plain e h2 h4⟩, fun i d h => (cut_ow h).elim, fun i j ds es p h => (cut_ow h).elim⟩
theorem mkS_ne {b : Bool} {us : List V} {kvs : List (Key × V)} : mkS b us ≠ .dK kvs := fun z => by cases b <;> cases z
section
variable {X : Cx} {K : PySem.W.Frag} {tg elt e2 : Expr} {tb : TE} {φ φb : Env → Option D} {θ : D → Env → Option Env} {pos : Pos}
theorem walk_v2 {S1 S2 : Hp → List V → Prop} {xs ys : List V} {n : Nat} (hn : n = min xs.length ys.length) : Walk (Zg.Itz2 S1 S2) n (fun H => S1 H xs ∧ S2 H ys) (YPair (fun i => xs[i]?) (fun i => ys[i]?)) := by
  subst hn
  refine ⟨fun i _ hi q => ?_, fun _ q => ⟨xs, ys, q.1, q.2, by omega⟩, fun i H v H' _ q y => ?_⟩
  · have h1 : i < xs.length := by omega
    have h2 : i < ys.length := by omega
    exact ⟨xs, ys, xs[i], ys[i], q.1, q.2, List.getElem?_eq_getElem _, List.getElem?_eq_getElem _⟩
  · obtain ⟨T, x, z, h1, h2, h3, h4, h5⟩ := y
    exact ⟨T, x, z, h1, h2, h3, h4 xs q.1, h5 ys q.2⟩
/-- what all([elt for tg in zip(self.f.values(), e2)]) tells -/
def allZipF (i : Nat) (C0 : Addr) (f : Str) (φb : Env → Option D) (vs : List Nat) (θ : D → Env → Option Env) (φ : Env → Option D) : Env → Option D := fun ρ => match ρ[i]? with
  | some (.pu o) => (fldD C0 f o).bind fun d => match d with
    | .dct ks xs => if plainDs xs = true then (φb (cutE ρ)).bind fun y => match y with
      | .seq _ ys => if (zipL xs ys).length ≤ Lim then (compF θ yesF φ (zipL xs ys) (wipeE (cutE ρ) vs)).bind fun zs => (boolsOf zs).map fun bs => bD (bs.all id) else none
      | _ => none
      else none
    | _ => none
  | _ => none
theorem pu_allZip {i : Nat} {C0 : Addr} {f : Str} {p p2 fpos tpos zpos apos cpos lpos : Pos} {elts : List Expr} {kk : Nat} {scope : Scope} {o : Expr} (own : List (Str × Nat)) (hc : X.calm = true) (hN : X.N.Nodup) (cl : Cls X.K C0) (n : NoAttr X.K C0 f)
    {g : Shared → Hp → Addr → List (Str × Addr) → List Addr → TG} {te : Shared → Hp → Addr → List (Str × Addr) → List Addr → TE}
    (hg : Gl X "all") (hm : X.mg "all" = none) (hv : bootBuiltins "all" = some (.builtin "all")) (hg2 : Gl X "zip") (hm2 : X.mg "zip" = none)
    (ho : PE X o (tVar i)) (hb : PuD X e2 tb φb)
    (ok : BlkOk X.N X.env.scope scope own)
    (ht : ∀ (s : Shared) (H : Hp) (C : Addr) (cl : List (Str × Addr)) (fp : List Addr), TgD (X.blk s H scope (compEnvC scope cl C X.env) fp) (.Tuple elts kk tpos) (g s H C cl fp) θ) (hw : ∀ s H C cl fp, TgW (g s H C cl fp) (own.map (·.2)))
    (he : ∀ (s : Shared) (H : Hp) (C : Addr) (cl : List (Str × Addr)) (fp : List Addr), PuD (X.blk s H scope (compEnvC scope cl C X.env) fp) elt (te s H C cl fp) φ)
    (hb1 : attributeBase o f X.env (eval o X.env) = eval o X.env := by rfl)
    (hbase : attributeBase (.Attribute o f fpos) "values" X.env (eval (.Attribute o f fpos) X.env) = eval (.Attribute o f fpos) X.env := by rfl) (hline : (apos.endLine == cpos.line) = true := by rfl)
    (hs2 : starEach [e2] X.env = (false, eval e2 X.env) :: starEach [] X.env := by rfl)
    (hs : starEach [.Call (.Attribute (.Attribute o f fpos) "values" apos) [] [] cpos, e2] X.env = (false, eval (.Call (.Attribute (.Attribute o f fpos) "values" apos) [] [] cpos) X.env) :: starEach [e2] X.env := by rfl) (hpl : (backTo zpos (starEach [e2] X.env)).any (·.1) = false := by rfl)
    (hsI : ∀ x, foldedSetIterable (.Call (.Name "zip" p2) [.Call (.Attribute (.Attribute o f fpos) "values" apos) [] [] cpos, e2] [] zpos) X.env x = pure x := by intro _; rfl)
    (hsL : starEach [.ListComp elt [⟨.Tuple elts kk tpos, .Call (.Name "zip" p2) [.Call (.Attribute (.Attribute o f fpos) "values" apos) [] [] cpos, e2] [] zpos, [], 0⟩] scope lpos] X.env = (false, eval (.ListComp elt [⟨.Tuple elts kk tpos, .Call (.Name "zip" p2) [.Call (.Attribute (.Attribute o f fpos) "values" apos) [] [] cpos, e2] [] zpos, [], 0⟩] scope lpos) X.env) :: starEach [] X.env := by rfl) :
    PuD X (.Call (.Name "all" p) [.ListComp elt [⟨.Tuple elts kk tpos, .Call (.Name "zip" p2) [.Call (.Attribute (.Attribute o f fpos) "values" apos) [] [] cpos, e2] [] zpos, [], 0⟩] scope lpos] [] pos)
      (tLockE (tCB (rAll X.K) (tCons (tLc (Zg.iZipV X.K (tFld X.K (tVar i) f) tb) (cTg (own.map (·.2)) θ) (cTe yesF) (cPu φ) (own.map (·.2))) tNil))) (allZipF i C0 f φb (own.map (·.2)) θ φ) :=
  ⟨pe_lock (pe_callB (cr_all hc) hg hm hv (pa_cons (pe_lc hc hN (Zg.pi_zipV hg2 hm2 (pe_fld ho hb1) hb.pe hbase hline hs2 hs hpl) ok (fun s H C cl fp => (ht s H C cl fp).c (hw s H C cl fp))
      (fun s H C cl fp => ⟨fun pins s' σ H' Q I ⟨ρ, b, G, h1, h2, h3⟩ => pts_nil.run pins s' σ H' Q I (ts_nil ρ b h1 G H' σ h2 Q h3)⟩) (fun s H C cl fp => (he s H C cl fp).c) hsI) pa_nil hsL)), fun ρ z ee G H σ x Q k => by
    unfold allZipF at ee
    split at ee
    · rename_i ob h1
      obtain ⟨d, e1, ee⟩ := Option.bind_eq_some_iff.mp ee
      split at ee
      · rename_i ks xs
        split at ee
        · rename_i hp
          obtain ⟨y, e2, ee⟩ := Option.bind_eq_some_iff.mp ee
          split at ee
          · rename_i b ys
            split at ee
            · rename_i hlen
              obtain ⟨zs, e3, ee⟩ := Option.bind_eq_some_iff.mp ee
              obtain ⟨bs, e4, rfl⟩ := Option.map_eq_some_iff.mp ee
              obtain ⟨v, h2, h3⟩ := x.pu i ob h1
              unfold fldD at e1
              split at e1
              · rename_i C ns fs
                split at e1
                · rename_i hC
                  subst hC
                  obtain ⟨a, dx, us, rfl, ha, hl0, hr⟩ := h3.un_obj
                  obtain ⟨u, hu, ru⟩ := getS_rep hr e1
                  obtain ⟨dd, ws, rfl, hd, l1, l2, qs⟩ := ru.un_dct
                  have hHd := x.gh _ _ hd
                  have had : a ≠ dd := fun z => by rw [z, hd] at ha; cases ha
                  refine ⟨dd, .dK (ks.zip ws), hHd, trivial, fun od => ?_⟩
                  have exS : ExS G (upd G dd (.frz od (.dK (ks.zip ws)))) := fun c b0 us0 hh => by
                    have : c ≠ dd := fun z => by rw [z, hd] at hh; exact mkS_ne (Option.some.inj hh).symm
                    rw [upd_ne this]; exact hh
                  have exG : Ex (upd G dd (.frz od (.dK (ks.zip ws)))) (upd H dd (.frz od (.dK (ks.zip ws)))) := fun c o hh => by
                    by_cases q : c = dd
                    · rw [q, upd_same] at hh ⊢; exact hh
                    · rw [upd_ne q] at hh ⊢; exact x.gh _ _ hh
                  have x' := x.cut exS exG
                  have qs' : Reps (upd G dd (.frz od (.dK (ks.zip ws)))) xs ws := Reps.plain exS hp qs
                  have aH : upd H dd (.frz od (.dK (ks.zip ws))) a = some (.ins C dx (ns.zip us)) := by rw [upd_ne had]; exact x.gh _ _ ha
                  have hz : (ks.zip ws).map (·.2) = ws := by rw [List.map_snd_zip]; rw [qs.len]; omega
                  have fin : ItAt (Zg.iZipV X.K (tFld X.K (tVar i) f) tb) (zipL xs ys) (upd G dd (.frz od (.dK (ks.zip ws)))) (upd H dd (.frz od (.dK (ks.zip ws)))) σ := fun R kR => by
                    refine ⟨.ref a, h2, a, C, dx, _, .ref dd, rfl, aH, cl, n, hu, dd, od, ks.zip ws, rfl, upd_same, ?_⟩
                    refine hb.ev _ _ e2 _ _ σ x' _ fun v2 G2 H2 f2 r2 => ?_
                    obtain ⟨b2, us2, rfl, hb2, l3, q2⟩ := r2.un_sq
                    have gd : G2 dd = some (.frz od (.dK (ks.zip ws))) := f2.g _ _ upd_same
                    refine ⟨b2, us2, rfl, f2.gh _ _ gd, ?_⟩
                    have qs2 := qs'.mono f2.g
                    have hmin : (zipL xs ys).length = min ws.length us2.length := by rw [zip_len, qs2.len, q2.len]
                    cases b with
                    | true => exact .inl ⟨SqL.of (f2.gh _ _ hb2), kR _ G2 H2 (fun H => (∃ kvs, H dd = some (.frz od (.dK kvs)) ∧ ws = kvs.map (·.2)) ∧ SqL X.K H b2 us2) _ f2 (walk_v2 hmin)
                        (fun H' g => ⟨⟨_, g _ _ gd, hz.symm⟩, SqL.of (g _ _ hb2)⟩) (ypair_ok fun i x y _ z1 z2 => zip_get qs2 q2 i x y z1 z2)⟩
                    | false => exact .inr ⟨SqT.of (f2.gh _ _ hb2), kR _ G2 H2 (fun H => (∃ kvs, H dd = some (.frz od (.dK kvs)) ∧ ws = kvs.map (·.2)) ∧ SqT X.K H b2 us2) _ f2 (walk_v2 hmin)
                        (fun H' g => ⟨⟨_, g _ _ gd, hz.symm⟩, SqT.of (g _ _ hb2)⟩) (ypair_ok fun i x y _ z1 z2 => zip_get qs2 q2 i x y z1 z2)⟩
                  refine lc_at (own.map (·.2)) fin x' hlen e3 (fun v H1 => rAll X.K [v] H1 fun v H' => H' dd = some (.frz od (.dK (ks.zip ws))) ∧ Q v (upd H' dd (.dK (ks.zip ws)))) fun pp us3 G2 H2 f2 n1 n2 h4 l4 q4 => ?_
                  show rAll X.K [.ref pp] H2 _
                  obtain rfl := bools_un e4
                  obtain ⟨rfl, _⟩ := reps_leafy q4
                  have gd : G2 dd = some (.frz od (.dK (ks.zip ws))) := f2.g _ _ upd_same
                  refine ⟨pp, bs, rfl, SqL.of h4, f2.gh _ _ gd, ?_⟩
                  refine k _ (upd G2 dd (.dK (ks.zip ws))) _ ⟨fun c o hh => ?_, fun c o hh => ?_, fun c o hh => ?_, fun c c1 c2 => ?_⟩ (.lf rfl)
                  · by_cases q : c = dd
                    · rw [q, upd_same]; rw [q, hd] at hh; exact hh
                    · rw [upd_ne q]; exact f2.g _ _ (by rw [upd_ne q]; exact hh)
                  · by_cases q : c = dd
                    · rw [q, upd_same] at hh ⊢; exact hh
                    · rw [upd_ne q] at hh ⊢; exact f2.gh _ _ hh
                  · by_cases q : c = dd
                    · rw [q, upd_same]; rw [q, hHd] at hh; exact hh
                    · rw [upd_ne q]; exact f2.h _ _ (by rw [upd_ne q]; exact hh)
                  · have q : c ≠ dd := fun z => by rw [z, hd] at c2; cases c2
                    rw [upd_ne q]
                    exact f2.nw _ (by rw [upd_ne q]; exact c1) (by rw [upd_ne q]; exact c2)
                · cases e1
              · cases e1
            · cases ee
          · cases ee
        · cases ee
      · cases ee
    · cases ee⟩
end
end L2.Tr

namespace L2.Tr
open PySem PySem.Spec PyProof.Rows
/-! isinstance(x, C), C an own class -/
structure OwnC (K : PySem.W.Frag) (C : Addr) : Prop where
  ty : ∀ {H : Hp} {a dx : Addr} {fs : List (Str × V)}, H a = some (.ins C dx fs) → TyOf K H (.ref a) (.ref C)
  no : ∀ s ∈ ["NoneType", "bool", "int", "str", "list", "tuple", "dict"], PySem.W.kitOne K (.type s) (.ref C) = some false
def isCls (C0 : Addr) : D → Option Bool
  | .obj C _ _ => if C = C0 then some true else none
  | .leaf (.byt _) => none
  | .leaf (.ty _) => none
  | d => (tyName d).bind fun s => if s ∈ ["NoneType", "bool", "int", "str", "list", "tuple", "dict"] then some false else none
section
variable {X : Cx} {K : PySem.W.Frag} {e : Expr} {t : TE} {φ : Env → Option D}
theorem isT_cls {C0 : Addr} (h : OwnC K C0) : IsT K (.ref C0) (isCls C0) := fun d b e H v r => by
  have gen : ∀ {d : D}, ((tyName d).bind fun s => if s ∈ ["NoneType", "bool", "int", "str", "list", "tuple", "dict"] then some false else none) = some b → Rep H d v → ∃ t, TyX K H v t ∧ PySem.W.kitOne K t (.ref C0) = some b := fun {d} e r => by
    obtain ⟨s, h1, h2⟩ := Option.bind_eq_some_iff.mp e
    split at h2
    · rename_i hs
      cases h2
      exact ⟨_, ty_of h1 r, h.no s hs⟩
    · cases h2
  cases d with
  | obj C ns ds =>
    unfold isCls at e
    simp only at e
    split at e
    · rename_i hC
      subst hC
      cases e
      obtain ⟨a, dx, us, rfl, h1, _, _⟩ := r.un_obj
      exact ⟨_, .base (h.ty h1), if_pos (beq_self_eq_true _)⟩
    · cases e
  | dct ks ds => exact gen (d := .dct ks ds) e r
  | frz ks ds => exact gen (d := .frz ks ds) e r
  | seq b' ds => exact gen (d := .seq b' ds) e r
  | leaf x => cases x <;> first | (cases e; done) | exact gen (d := .leaf .non) e r | exact gen (d := .leaf (.bl _)) e r | exact gen (d := .leaf (.int _)) e r | exact gen (d := .leaf (.str _)) e r
theorem pu_isiC {x : Str} {p pos : Pos} {C : Addr} {eT : Expr} {q : D → Option Bool} (hT : IsT X.K (.ref C) q) (hg : Gl X x) (hm : X.mg x = none) (hv : bootBuiltins x = some (.builtin "isinstance")) (ha : ViD X e t φ) (hT2 : PE X eT (tC (.ref C))) (hn : x ≠ "__name__" := by decide) (hdb : (x == ("__debug__" : Str)) = false := by decide)
    (he1 : starEach [eT] X.env = (false, eval eT X.env) :: starEach [] X.env := by rfl) (he : starEach [e, eT] X.env = (false, eval e X.env) :: starEach [eT] X.env := by rfl) (hpl : (backTo pos (starEach [eT] X.env)).any (·.1) = false := by rfl) :
    PuD X (.Call (.Name x p) [e, eT] [] pos) (tCB (rIsi X.K) (tCons t (tCons (tC (.ref C)) tNil))) (isF q φ) := ⟨pe_callB call_isi hg hm hv (pa_cons ha.pe (pa_cons hT2 pa_nil he1) he) hn hdb he hpl, fun ρ d ee G H σ xx Q k => by
  obtain ⟨b, h1, rfl⟩ := Option.map_eq_some_iff.mp ee
  obtain ⟨d1, h2, h3⟩ := Option.bind_eq_some_iff.mp h1
  refine ha.ev ρ d1 h2 G H σ xx _ fun v G1 H1 f1 r1 => ?_
  obtain ⟨tt, h4, h5⟩ := hT d1 b h3 H1 v (r1.rep f1.gh)
  exact ⟨v, .ref C, tt, .ref C, b, rfl, .own C, h4, h5, k _ G1 H1 f1 (.lf rfl)⟩⟩
theorem con_in {C0 : Addr} {k : Nat} {f : List D → Option D} (h : Con X.prog X.w X.K X.mg X.base C0 k f) (hr : Room k X.A) : OpR X (compareOp .In) (L2.Vy.rInO C0 (spP f) false) := by
  obtain ⟨a, fd, ps, h1, h2, h3⟩ := h.ex
  exact L2.Vy.op_inO h2 hr h1 h3 pass0
theorem con_notIn {C0 : Addr} {k : Nat} {f : List D → Option D} (h : Con X.prog X.w X.K X.mg X.base C0 k f) (hr : Room k X.A) : OpR X (compareOp .NotIn) (L2.Vy.rInO C0 (spP f) true) := by
  obtain ⟨a, fd, ps, h1, h2, h3⟩ := h.ex
  exact L2.Vy.op_notInO h2 hr h1 h3 pass0
end
abbrev dinV (φa φb : Env → Option D) : Env → Option D := fun ρ => (bin2 (dinB false) φa φb ρ).map bD
abbrev neverF : Env → Option Out := fun _ => none
end L2.Tr

namespace L2.TRev
open PySem PySem.Spec PyProof.Rows L2 HT
open PySem.Sem (wp)
section
variable {prog : Program} {w : World} {A : Around} {E : Value → Shared → Prop} {s : Shared}
theorem places_rev (n : Nat) : Builtin.Slice.slicePlaces ((n : Int) - 1) (-1) (-1) = n := by
  unfold Builtin.Slice.slicePlaces
  have h1 : ¬ ((-1 : Int) > 0) := by omega
  have h2 : (- -1 : Int) = 1 := by decide
  simp only [h1, if_false, h2, Int.ediv_one]
  split <;> omega
theorem adjust_rev (n : Nat) : Builtin.Slice.sliceAdjust none none (-1) (n : Int) = ((n : Int) - 1, -1) := by
  unfold Builtin.Slice.sliceAdjust
  rfl
theorem applied_rev {sl : Addr} {vs : Value} {n : Nat} {Q : Int × Int × Nat → Shared → Prop} (hs : s.heap.IsSliceOf sl .none .none vs) (ps : IsPart vs (some (-1)))
    (h : Q ((n : Int) - 1, -1, n) s) : wpAny (model prog w) A (Builtin.Slice.sliceApplied (.ref sl) (pure (n : Int))) Q E s := by
  obtain ⟨os, hos, hcs, hds⟩ := id hs
  unfold Builtin.Slice.sliceApplied Builtin.Slice.sliceFields
  refine wpAny_bind (wpAny_bind (wpAny_field hos hds (x := .none) rfl (wpAny_bind (wpAny_field hos hds (x := .none) rfl (wpAny_bind (wpAny_field hos hds (x := vs) rfl (wpAny_pure ?_)))))))
  refine wpAny_bind (slicePart_ ps ?_)
  show wpAny _ _ (if ((-1 : Int) == 0) = true then _ else _) _ _ s
  rw [if_neg (by decide)]
  refine wpAny_bind (slicePart_none (wpAny_bind (slicePart_none (wpAny_bind (wpAny_pure ?_)))))
  show wpAny _ _ (match Builtin.Slice.sliceAdjust none none (-1) (n : Int) with | (lo, hi) => pure (lo, (-1 : Int), Builtin.Slice.slicePlaces lo hi (-1))) _ _ s
  rw [adjust_rev n]
  show wpAny _ _ (pure ((n : Int) - 1, (-1 : Int), Builtin.Slice.slicePlaces ((n : Int) - 1) (-1) (-1))) _ _ s
  rw [places_rev]
  exact wpAny_pure h
theorem pick_rev (xs : Array Value) : ((List.range xs.size).filterMap fun (m : Nat) => xs[(((xs.size : Int) - 1) + (m : Int) * (-1)).toNat]?).toArray = xs.toList.reverse.toArray := by
  have h : (List.range xs.size).filterMap (fun (m : Nat) => xs[(((xs.size : Int) - 1) + (m : Int) * (-1)).toNat]?) = ((List.range xs.size).map fun k => xs.size - 1 - k).filterMap (xs[·]?) := by
    rw [List.filterMap_map]
    have gen : ∀ (l : List Nat), (∀ m ∈ l, m < xs.size) → l.filterMap (fun (m : Nat) => xs[(((xs.size : Int) - 1) + (m : Int) * (-1)).toNat]?) = l.filterMap ((fun x => xs[x]?) ∘ fun k => xs.size - 1 - k) := fun l => by
      induction l with
      | nil => intro _; rfl
      | cons m l ih =>
        intro hl
        have hm := hl m List.mem_cons_self
        have e : (((xs.size : Int) - 1) + (m : Int) * (-1)).toNat = xs.size - 1 - m := by omega
        rw [List.filterMap_cons, List.filterMap_cons, ih fun z hz => hl z (List.mem_cons_of_mem _ hz), e]
        rfl
    exact gen _ fun m hm => List.mem_range.mp hm
  rw [h, PySem.W.krv_range, List.filterMap_reverse, PySem.W.krv_all]
theorem getItem_rev {t sl : Addr} {items : Array Value} {vs : Value} {Q : Value → Shared → Prop} (ht : IsTup s.heap t items) (hs : s.heap.IsSliceOf sl .none .none vs) (ps : IsPart vs (some (-1)))
    (h : Q (.ref s.heap.objs.size) { s with heap := s.heap.push { cls := .type "tuple", data := .seq items.toList.reverse.toArray } })
    (hsz : items.size ≤ sizeLine) : wpAny (model prog w) A (getItem (.ref t) (.ref sl)) Q E s := by
  have htake : sizeOk (.seq items.toList.reverse.toArray) := by
    show items.toList.reverse.toArray.size ≤ sizeLine
    rw [List.size_toArray, List.length_reverse, Array.length_toList]
    omega
  obtain ⟨os, hos, hcs, hds⟩ := id hs
  have hTs : s.TypeIs (.ref sl) "slice" := ⟨os, hos, hcs⟩
  unfold getItem
  try with_reducible refine wpAny_holding ?_
  first | refine wpAny_bind (wpAny_pure ?_) | skip
  refine wpAny_bind (wpAny_sequenceKey ht.typeIs (by decide) ?_)
  refine wpAny_bind (wpAny_callSpecial?_slot (name := Str.ofString "__getitem__") ht.typeIs PyProof.Rows.slot_tuple_getitem
    (wpAny_call_entry PyProof.Rows.slot_tuple_getitem ht.typeIs entry_tuple_getitem ?_ (args_tuple_getitem _ _)))
  show wpAny _ _ (Builtin.Tuple.tupleItemsOf (.ref t) >>= _) _ _ s
  refine wpAny_bind (tupleItemsOf_ ht ?_)
  refine wpAny_bind (wpAny_typeOf hTs ?_)
  rw [if_pos (by decide)]
  refine wpAny_bind (applied_rev hs ps ?_)
  have hno : ¬ ((((items.size : Int) - 1) == 0 && (-1 : Int) == 1 && items.size == items.size) = true) := by
    intro q
    rw [Bool.and_eq_true, Bool.and_eq_true] at q
    have := q.1.2
    exact absurd this (by decide)
  show wpAny _ _ (if (((items.size : Int) - 1) == 0 && (-1 : Int) == 1 && items.size == items.size) = true then _ else _) _ _ s
  rw [if_neg hno, pick_rev]
  first
    | exact wpAny_bind (m := Builtin.Tuple.tupleExact _) (wpAny_newObj_type (wpAny_pure ⟨_, rfl, wpAny_pure h⟩) htake)
    | exact wpAny_bind (m := Builtin.Tuple.tupleExact _) (wpAny_newObj_type (wpAny_bind (wpAny_pure (wpAny_pure ⟨_, rfl, wpAny_pure h⟩))) htake)
    | exact wpAny_bind (wpAny_bind (m := Builtin.Tuple.tupleExact _) (wpAny_newObj_type (wpAny_pure (wpAny_pure ⟨_, rfl, wpAny_pure h⟩)) htake))
    | exact wpAny_bind (wpAny_bind (m := Builtin.Tuple.tupleExact _) (wpAny_newObj_type (wpAny_pure ⟨_, rfl, wpAny_pure h⟩) htake))
end
def tRevT (K : PySem.W.Frag) (te : TE) : TE := fun σ H Q => te σ H fun x H1 => ∃ a xs, x = .ref a ∧ SqT K H1 a xs ∧ ∀ p, H1 p = none → Q (.ref p) (upd H1 p (.tup xs.reverse))
theorem pe_revT {X : Cx} {e : Expr} {te : TE} {k : Nat} {p1 p2 p3 pos : Pos} (he : PE X e te) : PE X (.Subscript e (.Slice none none (some (.UnaryOp .USub (.Constant (.int 1) k p1) p2)) p3) pos) (tRevT X.K te) := by
  refine ⟨fun pins s σ H Q I h => ?_⟩
  refine Subscript_ (thn (he.run pins s σ H _ I h) fun v s1 ⟨x, H1, I1, r1, q1⟩ => ?_)
  obtain ⟨a, xs, ex, hx, q⟩ := q1
  subst ex
  cases r1
  have hst : PO X (some (.UnaryOp .USub (.Constant (.int 1) k p1) p2)) (tPart (tUn (rU fun i => .int (-i)) (tC (.int 1)))) := po_some (pe_un un_neg pe_int)
  refine wpAny_Slice (thn (po_none.run pins s1 σ H1 (fun o H2 => o = none ∧ H2 = H1) I1 ⟨rfl, rfl⟩) fun vl s2 ⟨l, H2, I2, pl, el, e2⟩ => ?_)
  subst el e2
  refine thn (po_none.run pins s2 σ H2 (fun o H3 => o = none ∧ H3 = H2) I2 ⟨rfl, rfl⟩) fun vu s3 ⟨u, H3, I3, pu, eu, e3⟩ => ?_
  subst eu e3
  refine thn (hst.run pins s3 σ H3 (fun o H4 => o = some (-1) ∧ H4 = H3) I3 ⟨1, rfl, -1, rfl, rfl, rfl⟩) fun vs s4 ⟨o, H4, I4, ps, eo, e4⟩ => ?_
  subst eo e4
  cases pl
  cases pu
  have I5 : Inv X pins σ H4 { s4 with heap := s4.heap.push { cls := .type "slice", data := .fields #[.none, .none, vs] } } := I4.kept (t' := s4.toks) fun b ob q => Heap.get?_push_of_some _ q
  obtain ⟨its, r, ht, hz⟩ := I5.tuple hx
  have hlen := r.length
  show wpAny (model X.prog X.w) X.A (subscriptTail e (.Slice none none (some (.UnaryOp .USub (.Constant (.int 1) k p1) p2)) p3) (.ref a) (.ref s4.heap.objs.size)) (EP X pins σ Q) X.xe { s4 with heap := s4.heap.push { cls := .type "slice", data := .fields #[.none, .none, vs] } }
  refine tail_any (ops := [.ref a, .ref s4.heap.objs.size]) ht.typeIs (PyProof.Rows.slot_tuple_getitem.lookup) ?_ (by with_unfolding_all rfl)
  refine getItem_rev ht (Heap.IsSliceOf.new _ .none .none vs) ps ?_ (by rw [List.size_toArray]; omega)
  refine ⟨.ref _, _, I5.laid (t' := s4.toks) (o := .tup xs.reverse) (fun b ob q => Heap.get?_push_of_some _ q) (Nat.le_refl _) ?_, rfl, q _ (I5.hok.fresh (Nat.le_refl _))⟩
  exact ⟨by rw [List.length_reverse]; exact hz, _, r.reverse, ⟨_, Heap.get?_push_size _ rfl, rfl, _, rfl⟩⟩
end L2.TRev
namespace L2.Tr
open PySem PySem.Spec PyProof.Rows
section
variable {X : Cx} {a : Expr} {ta : TE} {φa : Env → Option D} {pos : Pos}
def revT (φ : Env → Option D) : Env → Option D := fun ρ => (φ ρ).bind fun d => match d with
  | .seq false ds => some (.seq false ds.reverse)
  | _ => none
theorem pu_revT {k : Nat} {p1 p2 p3 : Pos} (h : ViD X a ta φa) : PuD X (.Subscript a (.Slice none none (some (.UnaryOp .USub (.Constant (.int 1) k p1) p2)) p3) pos) (TRev.tRevT X.K ta) (revT φa) := ⟨TRev.pe_revT h.pe, fun ρ z ee G H σ x Q kk => by
  obtain ⟨d, e1, e2⟩ := Option.bind_eq_some_iff.mp ee
  refine h.ev ρ d e1 G H σ x _ fun v G1 H1 f1 r1 => ?_
  split at e2
  · cases e2
    obtain ⟨p, us, rfl, h1, l1, q1⟩ := r1.tup.un_sq
    exact ⟨p, us, rfl, SqT.of (f1.gh _ _ h1), fun q nq => kk _ _ _ (f1.trans (.new f1.gh nq)) (.sq (b := false) upd_same (by rw [List.length_reverse]; exact l1) (q1.rev.mono (Ex.new (f1.gh.back nq))))⟩
  · cases e2⟩
end
end L2.Tr

/-! sorted(d, key=int) of a dict whose keys are ints -/
namespace L2.Tr
open PySem PySem.Spec PyProof.Rows
theorem le_of_merge {ks : List Int} : (ks.mergeSort (PySem.W.dataLe false PyData.int)).Pairwise (· ≤ ·) := by
  have e : PySem.W.dataLe false PyData.int = fun a b : Int => decide (a ≤ b) := PySem.W.dataLe_int (k := fun b : Int => b)
  rw [e]
  have := List.pairwise_mergeSort (le := fun a b : Int => decide (a ≤ b)) (fun a b c h1 h2 => by
    have h1 := of_decide_eq_true h1
    have h2 := of_decide_eq_true h2
    exact decide_eq_true (by omega)) (fun a b => by
    by_cases h : a ≤ b
    · simp [h]
    · have : b ≤ a := by omega
      simp [this]) ks
  exact this.imp fun h => of_decide_eq_true h
abbrev IsI : Value → Int → Prop := fun v x => ∃ t, v = .int x t
theorem each_ints : ∀ {vs : List Value} {ks : List Int}, IntsAre vs ks → PySem.W.EachIs IsI vs ks
  | _, _, .nil => .nil
  | _, _, .cons n t h => .cons ⟨t, rfl⟩ (each_ints h)
theorem ints_of_each : ∀ {vs : List Value} {ks : List Int}, PySem.W.EachIs IsI vs ks → IntsAre vs ks
  | _, _, .nil => .nil
  | _, _, .cons ⟨t, e⟩ h => by subst e; exact .cons _ t (ints_of_each h)
/-- values that are, each at its place, a key's value, are the keys' ints -/
theorem key_ints {P : Program} {w : World} {pairs : List (Key × Value)} {ks : List Int} {got : Array Value} (hk : pairs.map Prod.fst = ks.map Sum.inl) (h : ItemsOf (fun i v => ∃ k x, pairs[i]? = some (k, x) ∧ (mixKind P w).is k v = true) got pairs.length) :
    IntsAre got.toList ks := by
  have lk : pairs.length = ks.length := by simpa using congrArg List.length hk
  refine ints_each (by rw [Array.length_toList, h.1, lk]) fun j v hj => ?_
  have hj : got[j]? = some v := by rwa [Array.getElem?_toList] at hj
  obtain ⟨k, x, at1, at2⟩ := h.2 j v hj
  have at3 : (ks.map Sum.inl)[j]? = some k := by rw [← hk, List.getElem?_map, at1] <;> rfl
  rw [List.getElem?_map] at at3
  obtain ⟨y, hy, rfl⟩ := Option.map_eq_some_iff.mp at3
  have at4 : keyIs (Sum.inl y) v = true := at2
  rcases keyIs_shape at4 with ⟨i, t, q1, q2⟩ | ⟨i, t, q1, q2⟩
  · cases q1
    exact ⟨y, t, hy, q2⟩
  · cases q1
section
variable {X : Cx}
/-- what is known ahead of the call, and what comes of it -/
def rKI : List V → List V → Hp → VK → Prop := fun vs zs H Q => ∃ (a : Addr) (kvs : List (Key × V)) (ks : List Int), vs = [.ref a] ∧ zs = [.ty "int"] ∧ Rd H a (.dK kvs) ∧ kvs.map Prod.fst = ks.map Sum.inl ∧ ks.length < 1000 ∧
  ∀ (up : List Int) (p : Addr), up.Perm ks → up.Pairwise (· ≤ ·) → H p = none → Q (.ref p) (upd H p (.lst (up.map .int)))
theorem cr_sortedKI (calm : X.calm = true) (room : X.A.units + 9 < cLine) : CallRK X (.builtin "sorted") [Str.ofString "key"] rKI := by
  intro pins s σ H xs zs us ws Q I rv rz h
  obtain ⟨a, kvs, ks, rfl, rfl, hd, hks, lim, q⟩ := h
  obtain rfl := Vals.ref1 rv
  obtain ⟨kf, rfl, ekf⟩ := vals1 rz
  obtain rfl : kf = Value.type "int" := ekf
  obtain ⟨_, sysno, pairs, kv, dd⟩ := dk_rd I.hok hd
  obtain ⟨epoch, dat⟩ := dd.dictAt
  have keysI : pairs.map Prod.fst = ks.map Sum.inl := by rw [← hks]; exact kv.keys.symm
  have many : pairs.length = ks.length := by simpa using congrArg List.length keysI
  refine call_function_entry_kw kind_sorted plain_sorted entry_sorted (ksk_s1 _ _) ?_
  unfold Builtin.«sorted»
  apply wpAny_bind (m := checkCount "sorted" 1 1 _)
  apply wpAny_pure
  apply wpAny_bind
  refine PySem.W.kdu_collect (PySem.W.kdl_dict (knd := mixKind X.prog X.w) (kvs := pairs) (ep := epoch) sysno) (I.ok.hd calm) dat (by rw [many, sizeLine_eq]; omega) fun hp1 tk1 got old are => ?_
  have areI := key_ints keysI are
  have glen : got.toList.length = ks.length := by rw [Array.length_toList, are.1, many]
  have I1 : Inv X pins σ H { s with heap := hp1, toks := tk1 } := I.kept old
  apply wpAny_bind
  refine wpAny_newList ?_ (by rw [glen, sizeLine_eq]; omega)
  let hp2 := hp1.push (seqObj "list" got.toList.toArray 0)
  have here : hp2.get? hp1.objs.size = some (seqObj "list" got.toList.toArray 0) := Heap.get?_push_size _ rfl
  show wpAny _ _ _ _ _ { s with heap := hp2, toks := tk1 }
  apply wpAny_bind
  apply wpAny_holding
  refine wpAny_call_entry_kw slot_list_sort ⟨_, here, rfl⟩ entry_list_sort ?_ (ksk_l1 _ _)
  show wpAny _ _ (ksk_tree hp1.objs.size (.type "int") false) _ _ _
  have each := each_ints areI
  have isKey : ∀ {d : PyData}, d ∈ ks.map PyData.int → ∃ x, d = .int x := fun hd => by
    obtain ⟨x, _, e⟩ := List.mem_map.mp hd
    exact ⟨x, e.symm⟩
  refine PySem.W.keyH_tree (s := { s with heap := hp2, toks := tk1 }) (kz := ks.map PyData.int) (vs := got.toList) here (by rw [List.length_map, glen]) (by rw [glen, sizeLine_eq]; omega) (fun d hd d' hd' => ?_) (.inr fun d hd => ?_) (fun d hd => ?_)
    (PySem.W.keyH_turns (k := PyData.int) each fun v x isx _ hp3 tk3 _ => ?_) fun hp3 tk3 out c kept ko sorted => ⟨_, rfl, ?_⟩
  · obtain ⟨x, rfl⟩ := isKey hd
    obtain ⟨y, rfl⟩ := isKey hd'
    rfl
  · obtain ⟨x, rfl⟩ := isKey hd
    exact ⟨fun z => (by cases z), fun _ z => (by cases z)⟩
  · obtain ⟨x, rfl⟩ := isKey hd
    show X.A.units + 1 + 1 + 0 < cLine
    omega
  · obtain ⟨t, rfl⟩ := isx
    exact call_int_int ⟨hp3, tk3, rfl, fun _ _ z => z, .int x t⟩
  · have outs := ints_of_each (PySem.W.keyedOut_each (rev := false) PyData.int sorted each)
    have perm : (ks.mergeSort (PySem.W.dataLe false PyData.int)).Perm ks := List.mergeSort_perm _ _
    have le := le_of_merge (ks := ks)
    generalize ks.mergeSort (PySem.W.dataLe false PyData.int) = up at outs perm le
    have few : (up.map V.int).length ≤ sizeLine := by rw [List.length_map, perm.length_eq, sizeLine_eq]; omega
    have older : ∀ b u, hp1.get? b = some u → hp3.get? b = some u := fun b u z => kept b u (Nat.ne_of_lt (Heap.lt_size z)) (Heap.get?_push_of_some _ z)
    apply wpAny_pure
    refine ⟨_, rfl, .ref hp1.objs.size, upd H hp1.objs.size (.lst (up.map V.int)), I1.laid (t' := tk3) older (Nat.le_refl _) ?_, rfl, q up _ perm le (I1.hok.fresh (Nat.le_refl _))⟩
    exact ⟨few, out, c, vals_of_ints outs, ko⟩
end
end L2.Tr

/-! Trees: sum of a list, displays of dicts. -/
namespace L2.Tr
open PySem PySem.Spec PyProof.Rows
def intsOf : List D → Option (List Int)
  | [] => some []
  | .leaf (.int i) :: r => (intsOf r).map (i :: ·)
  | _ :: _ => none
theorem ints_un : ∀ {ds : List D} {ns : List Int}, intsOf ds = some ns → ds = (ns.map V.int).map D.leaf
  | [], ns, h => by cases h; rfl
  | d :: r, ns, h => by
    unfold intsOf at h
    split at h
    · rename_i hh; cases hh
    · rename_i b r' hh
      obtain ⟨ws, h1, rfl⟩ := Option.map_eq_some_iff.mp h
      injection hh with e1 e2
      subst e1 e2
      rw [ints_un h1]; rfl
    · cases h
def sumD : List D → Option D
  | [.seq true ds] => (intsOf ds).map fun ns => .leaf (.int ns.sum)
  | _ => none
theorem r1_sum {K : PySem.W.Frag} : R1D (rSum K) sumD := fun ds z e G H vs x r1 Q k => by
  unfold sumD at e
  split at e
  · rename_i ds
    obtain ⟨ns, h1, rfl⟩ := Option.map_eq_some_iff.mp e
    obtain rfl := ints_un h1
    obtain ⟨v, rfl, r⟩ := views1 r1
    obtain ⟨a, us, rfl, h1, l1, q⟩ := r.seq x
    obtain ⟨rfl, _⟩ := reps_leafy q
    exact ⟨a, ns, rfl, SqL.of h1, k _ G H (.refl x) (.lf rfl)⟩
  · cases e
/-! {"k": e, ..} -/
section
variable {X : Cx} {e k : Expr} {t : TE} {φ : Env → Option D} {ψ : Env → Option (List D)} {pos : Pos} {keys : List (Option Expr)} {values : List Expr} {trs : List (TE × TE)}
structure DsD (X : Cx) (pos : Pos) (keys : List (Option Expr)) (values : List Expr) (trs : List (TE × TE)) (ks : List Str) (ψ : Env → Option (List D)) : Prop where
  pps : PPs X pos keys values trs
  ev : ∀ ρ ds, ψ ρ = some ds → ∀ (G H : Hp) (σ : St), EnvOk G H σ ρ → ∀ Q : List (V × V) → Hp → Prop, (∀ vs G2 H2, Fr G H G2 H2 → Reps G2 ds vs → vs.length = ks.length → Q ((ks.map V.str).zip vs) H2) → tPairs trs σ H Q
theorem ds_nil : DsD X pos [] [] [] [] nilD := ⟨pps_nil, fun ρ ds ee G H σ x Q k => by cases ee; exact k [] G H (.refl x.gh) .nil rfl⟩
theorem ds_cons {x : Str} {ks : List Str} (hk : PE X k (tC (.str x))) (hv : PuD X e t φ) (hr : DsD X pos keys values trs ks ψ) : DsD X pos (some k :: keys) (e :: values) ((tC (.str x), t) :: trs) (x :: ks) (consD φ ψ) := ⟨pps_cons hk hv.pe hr.pps, fun ρ ds ee G H σ x0 Q kk => by
  obtain ⟨d, ds', e1, e2, rfl⟩ := consD_un ee
  show t σ H _
  refine hv.ev ρ d e1 G H σ x0 _ fun v G1 H1 f1 r1 => ?_
  refine hr.ev ρ ds' e2 G1 H1 σ (x0.mono f1) _ fun vs G2 H2 f2 r2 l2 => ?_
  exact kk (v :: vs) G2 H2 (f1.trans f2) (.cons (r1.mono f2.g) r2) (by rw [List.length_cons, List.length_cons, l2])⟩
theorem valV_off {k : Key} : ∀ {ks : List Key} {us : List V}, k ∉ ks → valV (ks.zip us) k = none
  | [], us, _ => rfl
  | a :: ks, [], _ => rfl
  | a :: ks, u :: us, h => by
    rw [List.zip_cons_cons, valV_neg (fun z => h (by rw [← z]; exact List.mem_cons_self))]
    exact valV_off fun z => h (List.mem_cons_of_mem _ z)
theorem merge_zip : ∀ {ks acc : List Key} {vs as : List V}, (acc ++ ks).Nodup → acc.length = as.length → ks.length = vs.length → mergeK (acc.zip as) (ks.zip vs) = (acc ++ ks).zip (as ++ vs)
  | [], acc, vs, as, _, h1, h2 => by
    have : vs = [] := List.length_eq_zero_iff.mp h2.symm
    subst this
    rw [List.append_nil, List.append_nil]; rfl
  | k :: ks, acc, [], as, _, _, h2 => by simp at h2
  | k :: ks, acc, v :: vs, as, hn, h1, h2 => by
    have hk : k ∉ acc := fun z => (List.nodup_append.mp hn).2.2 _ z _ List.mem_cons_self rfl
    show mergeK (putK (acc.zip as) k v) (ks.zip vs) = _
    have e : putK (acc.zip as) k v = (acc ++ [k]).zip (as ++ [v]) := by
      rw [putK_new v (valV_off hk), List.zip_append h1]; rfl
    rw [e, merge_zip (by rw [List.append_assoc]; exact hn) (by rw [List.length_append, List.length_append, h1]; rfl) (by simpa using h2), List.append_assoc, List.append_assoc]
    rfl
def dispF (ks : List Str) (ψ : Env → Option (List D)) : Env → Option D := fun ρ => (ψ ρ).bind fun ds => if ds.length = ks.length then some (.dct (ks.map Sum.inr) ds) else none
theorem zip_kv : ∀ {ks : List Str} {vs : List V}, (ks.map V.str).zip vs = (((ks.map Sum.inr : List Key).zip vs).map fun kv => (kV kv.1, kv.2))
  | [], _ => rfl
  | k :: ks, [] => rfl
  | k :: ks, v :: vs => by
    rw [List.map_cons, List.map_cons, List.zip_cons_cons, List.zip_cons_cons, List.map_cons, zip_kv]
    rfl
theorem pu_disp {ks : List Str} (h : DsD X pos keys values trs ks ψ) (hn : ks.Nodup) (hk : ks.length ≤ 15) (hall : keys.all (·.isSome) = true) (hl : keys.length = values.length) (h0 : keys ≠ [])
    (h15 : keys.length ≤ 15) : PuD X (.Dict keys values pos) (tDisp trs) (dispF ks ψ) := ⟨pe_disp h.pps hall hl h0 h15, fun ρ d ee G H σ x Q k => by
  obtain ⟨ds, e1, e2⟩ := Option.bind_eq_some_iff.mp ee
  split at e2
  · rename_i hd
    cases e2
    intro p np
    have f0 : Fr G H G (upd H p (.dK [])) := .tmp x.gh np
    refine h.ev ρ ds e1 G _ σ (x.mono f0) _ fun vs G2 H2 f2 r2 l2 => ?_
    have hp2 := f2.h _ _ (upd_same (a := p) (o := (.dK [] : HO)))
    have gp2 : G2 p = none := f2.nw p (by rw [upd_same]; exact fun z => by cases z) (x.gh.back np)
    refine ⟨hp2, (ks.map Sum.inr : List Key).zip vs, zip_kv, by rw [List.length_zip, List.length_map]; omega, ?_⟩
    have e : mergeK [] ((ks.map Sum.inr : List Key).zip vs) = (ks.map Sum.inr).zip vs := by
      have := merge_zip (ks := ks.map Sum.inr) (acc := []) (vs := vs) (as := []) (by
        rw [List.nil_append]
        exact List.pairwise_map.mpr (hn.imp fun z w => z (Sum.inr.inj w))) rfl (by rw [List.length_map, l2])
      exact this
    rw [e]
    refine k (.ref p) (upd G2 p (.dK ((ks.map Sum.inr).zip vs))) _ ⟨f2.g.trans (Ex.new gp2), fun a o z => ?_, fun a o z => ?_, fun a z1 z2 => ?_⟩ (.dc upd_same (by rw [List.length_map, hd]) (by have : Lim = 5000 := rfl; omega) (r2.mono (Ex.new gp2)))
    · by_cases q : a = p
      · rw [q, upd_same] at z ⊢; exact z
      · rw [upd_ne q] at z ⊢; exact f2.gh _ _ z
    · have q : a ≠ p := ne_of_none z np
      rw [upd_ne q]
      exact f2.h _ _ (by rw [upd_ne q]; exact z)
    · have q : a ≠ p := fun w => z1 (w ▸ np)
      rw [upd_ne q]
      exact f2.nw a (by rw [upd_ne q]; exact z1) z2
  · cases e2⟩
end
end L2.Tr

/-! Trees: sorted, dict(..), range(a, b), sum, displays of dicts. -/
namespace L2.Tr
open PySem PySem.Spec PyProof.Rows
def upI (ks : List Int) : List Int := ks.mergeSort fun a b => decide (a ≤ b)
theorem upI_perm (ks : List Int) : (upI ks).Perm ks := List.mergeSort_perm _ _
theorem upI_le (ks : List Int) : (upI ks).Pairwise (· ≤ ·) := by
  have := List.pairwise_mergeSort (le := fun a b : Int => decide (a ≤ b)) (fun a b c h1 h2 => by
    have h1 := of_decide_eq_true h1
    have h2 := of_decide_eq_true h2
    exact decide_eq_true (by omega)) (fun a b => by
    by_cases h : a ≤ b
    · simp [h]
    · have : b ≤ a := by omega
      simp [this]) ks
  exact this.imp fun h => of_decide_eq_true h
theorem upI_of {ys ks : List Int} (h : ys.Perm ks) (hl : ys.Pairwise (· ≤ ·)) : ys = upI ks :=
  (h.trans (upI_perm ks).symm).eq_of_pairwise (fun a b _ _ h1 h2 => by omega) hl (upI_le ks)
theorem upI_id {ks : List Int} (h : ks.Pairwise (· ≤ ·)) : upI ks = ks := (upI_of (List.Perm.refl ks) h).symm
def intD (i : Int) : D := .leaf (.int i)
theorem reps_ints {H : Hp} : ∀ ns : List Int, Reps H (ns.map intD) (ns.map V.int)
  | [] => .nil
  | n :: r => .cons (.lf rfl) (reps_ints r)
def intK : List Key → Option (List Int)
  | [] => some []
  | .inl i :: r => (intK r).map (i :: ·)
  | .inr _ :: _ => none
theorem intK_un : ∀ {ks : List Key} {is : List Int}, intK ks = some is → ks = is.map Sum.inl
  | [], is, h => by cases h; rfl
  | .inl i :: r, is, h => by
    unfold intK at h
    obtain ⟨js, h1, rfl⟩ := Option.map_eq_some_iff.mp h
    rw [intK_un h1]; rfl
  | .inr _ :: _, is, h => by cases h
theorem intK_map : ∀ is : List Int, intK (is.map Sum.inl) = some is
  | [] => rfl
  | i :: is => by rw [List.map_cons]; unfold intK; rw [intK_map is]; rfl
theorem intsOf_map : ∀ is : List Int, intsOf (is.map intD) = some is
  | [] => rfl
  | i :: is => by
    rw [List.map_cons]
    show (intsOf (is.map intD)).map (i :: ·) = _
    rw [intsOf_map is]; rfl
theorem zip_keys {ks : List Key} {us : List V} (h : ks.length = us.length) : (ks.zip us).map (·.1) = ks := zip_fst h
section
variable {X : Cx} {e e2 : Expr} {t ta tb : TE} {φ φa φb : Env → Option D} {pos p p2 kp : Pos}
/-- sorted(a dict with ints as keys, key=int) -/
def sortK : D → Option (List D)
  | .dct ks _ => (intK ks).bind fun is => if is.length < 1000 then some ((upI is).map intD) else none
  | .frz ks _ => (intK ks).bind fun is => if is.length < 1000 then some ((upI is).map intD) else none
  | _ => none
theorem ow_sortK (hc : X.calm = true) (hu : X.A.units + 9 < cLine) (hg : Gl X "sorted") (hm : X.mg "sorted" = none) (hgi : PE X (.Name "int" p2) (tC (.ty "int"))) (h : PuD X e t φ)
    (he : backTo pos (starEach [e] X.env) = (false, eval e X.env) :: backTo pos (starEach [] X.env) := by rfl) (hs : starEach [e] X.env = [(false, eval e X.env)] := by rfl) (hpl : (backTo pos (starEach [e] X.env)).any (·.1) = false := by rfl)
    (hall : (backToKw pos (keywordEach [⟨some "key", .Name "int" p2, kp⟩] X.env)).all (·.1.isSome) = true := by rfl) (hnone : (backToKw pos (keywordEach [⟨some "key", .Name "int" p2, kp⟩] X.env)).any (·.1.isNone) = false := by rfl) (hks : (backToKw pos (keywordEach [⟨some "key", .Name "int" p2, kp⟩] X.env)).filterMap (·.1) = [Str.ofString "key"] := by rfl) :
    OwD X (.Call (.Name "sorted" p) [e] [⟨some "key", .Name "int" p2, kp⟩] pos) (tCKw rKI (tCons t tNil) (tCons (tC (.ty "int")) tNil)) (fun ρ => (φ ρ).bind sortK) := by
  refine ⟨pe_callBK (cr_sortedKI hc hu) hg hm (by decide +kernel) (pa_cons h.pe pa_nil hs) (pk_cons hgi pk_nil) (by decide) (by decide) he hpl hall hnone hks, fun ρ z ee G H σ x Q k => ?_⟩
  obtain ⟨d, e1, e2⟩ := Option.bind_eq_some_iff.mp ee
  refine h.ev ρ d e1 G H σ x _ fun v G1 H1 f1 r1 => ?_
  unfold sortK at e2
  split at e2
  · rename_i ks ds
    obtain ⟨is, h1, h2⟩ := Option.bind_eq_some_iff.mp e2
    obtain rfl := intK_un h1
    split at h2
    · rename_i hl
      cases h2
      obtain ⟨a, us, rfl, hd, l0, l1, rs⟩ := r1.un_dct
      refine ⟨a, _, is, rfl, rfl, Rd.of (f1.gh _ _ hd), zip_keys (by rw [l0, rs.len]), hl, fun ys q hp hle nq => ?_⟩
      obtain rfl := upI_of hp hle
      exact k q _ G1 _ (f1.trans (.tmp f1.gh nq)) (f1.ne nq) (f1.gh.back nq) upd_same (by rw [List.length_map, (upI_perm is).length_eq]; have : Lim = 5000 := rfl; omega) (reps_ints _)
    · cases h2
  · rename_i ks ds
    obtain ⟨is, h1, h2⟩ := Option.bind_eq_some_iff.mp e2
    obtain rfl := intK_un h1
    split at h2
    · rename_i hl
      cases h2
      obtain ⟨a, us, o, rfl, hd, l0, l1, rs⟩ := r1.un_frz
      refine ⟨a, _, is, rfl, rfl, .inr ⟨o, f1.gh _ _ hd⟩, zip_keys (by rw [l0, rs.len]), hl, fun ys q hp hle nq => ?_⟩
      obtain rfl := upI_of hp hle
      exact k q _ G1 _ (f1.trans (.tmp f1.gh nq)) (f1.ne nq) (f1.gh.back nq) upd_same (by rw [List.length_map, (upI_perm is).length_eq]; have : Lim = 5000 := rfl; omega) (reps_ints _)
    · cases h2
  · cases e2
/-- sorted(a list of ints) -/
def sortL : List D → Option (List D)
  | [.seq true ds] => (intsOf ds).map fun is => (upI is).map intD
  | _ => none
theorem r1_sortL {K : PySem.W.Frag} : R1O (rSortedI K) sortL := fun ds z e G H vs x r1 Q k => by
  unfold sortL at e
  split at e
  · rename_i ds
    obtain ⟨is, h1, rfl⟩ := Option.map_eq_some_iff.mp e
    obtain rfl := ints_un h1
    obtain ⟨v, rfl, r⟩ := views1 r1
    obtain ⟨a, us, rfl, h1, l1, q⟩ := r.seq x
    obtain ⟨rfl, _⟩ := reps_leafy q
    refine ⟨a, is, rfl, SqL.of h1, fun ys p hp hle np => ?_⟩
    obtain rfl := upI_of hp hle
    exact k p _ G _ (.tmp x np) np (x.back np) upd_same (by rw [List.length_map, (upI_perm is).length_eq]; rw [List.length_map, List.length_map] at l1; exact l1) (reps_ints _)
  · cases e
/-- dict(a dict) -/
def dctD : List D → Option D
  | [.dct ks ds] => some (.dct ks ds)
  | _ => none
theorem r1_dct : R1D (fun xs H Q => ∃ (a : Addr) (kvs : List (Key × V)), xs = [.ref a] ∧ Rd H a (.dK kvs) ∧ ∀ p, H p = none → Q (.ref p) (upd H p (.dK kvs))) dctD := fun ds z e G H vs x r1 Q k => by
  unfold dctD at e
  split at e
  · rename_i ks ds
    cases e
    obtain ⟨v, rfl, r⟩ := views1 r1
    obtain ⟨a, us, rfl, h1, l0, l1, q⟩ := r.dct x
    exact ⟨a, _, rfl, Rd.of h1, fun p np => k (.ref p) _ _ (.new x np) (.dc upd_same l0 l1 (q.mono (Ex.new (x.back np))))⟩
  · cases e
/-- range(i, j) -/
def range2L (i j : Int) : List D := (List.range (j - i).toNat).map fun n => .leaf (.int (i + (n : Nat)))
def rng2D : D → D → Option (List D)
  | .leaf (.int i), .leaf (.int j) => if -1000000 ≤ i ∧ i ≤ 1000000 ∧ -1000000 ≤ j ∧ j ≤ 1000000 then some (range2L i j) else none
  | _, _ => none
abbrev rng2F (φa φb : Env → Option D) : Env → Option (List D) := bin2 rng2D φa φb
theorem it_rng2 {tg : Expr} (ha : PuD X e ta φa) (hb : PuD X e2 tb φb) (hg : Gl X "range") (hm : X.mg "range" = none) (hs1 : starEach [e2] X.env = (false, eval e2 X.env) :: starEach [] X.env := by rfl) (hs : starEach [e, e2] X.env = (false, eval e X.env) :: starEach [e2] X.env := by rfl) : ItD X tg (.Call (.Name "range" p) [e, e2] [] pos) (iRng2 (tCons ta (tCons tb tNil))) (rng2F φa φb) := ⟨pi_range2 hg hm (pa_cons ha.pe (pa_cons hb.pe pa_nil hs1) hs) (by rw [hs, hs1]; rfl) (by rw [hs1]; rfl), fun ρ ds ee G H σ x R k => by
  obtain ⟨d1, d2, e1, e2, ee⟩ := bin2_un ee
  unfold rng2D at ee
  split at ee
  · rename_i i j
    split at ee
    · rename_i hn
      cases ee
      refine ha.ev ρ _ e1 G H σ x _ fun v G1 H1 f1 r1 => ?_
      refine hb.ev ρ _ e2 G1 H1 σ (x.mono f1) _ fun v2 G2 H2 f2 r2 => ?_
      obtain ⟨rfl, _⟩ := r1.un_lf
      obtain ⟨rfl, _⟩ := r2.un_lf
      have hl : (range2L i j).length = (j - i).toNat := by unfold range2L; rw [List.length_map, List.length_range]
      refine ⟨i, j, rfl, ⟨by omega, by omega, by omega, by omega⟩, k _ G2 H2 (fun _ => True) _ (f1.trans f2) (by rw [hl]; exact walk_range) (fun _ _ => trivial) fun n H' y H'' G' hi g gh yy => ?_⟩
      obtain ⟨e3, rfl⟩ := yy
      subst e3
      rw [hl] at hi
      refine ⟨.leaf (.int (i + (n : Nat))), G', ?_, .refl gh, .lf rfl⟩
      unfold range2L
      rw [List.getElem?_map, List.getElem?_range hi]
      rfl
    · cases ee
  · cases ee⟩
end
end L2.Tr

/-! Trees: o[i], o an instance with a __getitem__ of its own; making with keywords. -/
namespace L2.Tr
open PySem PySem.Spec PyProof.Rows
section
variable {X : Cx} {K : PySem.W.Frag} {C f : Addr} {k : Nat} {a b e e2 : Expr} {es : List Expr} {ta tb t t' : TE} {φ φa φb : Env → Option D} {ψ ψ2 : Env → Option (List D)} {pos p : Pos} {fd : FuncData} {ps : List Str} {sp : Sp}
def rIxO (C : Addr) (sp : Sp) : R2 := fun x y H Q => ∃ a dx fs, x = .ref a ∧ H a = some (.ins C dx fs) ∧ sp [.ref a, y] H Q E0
theorem pe_ixO (F : FnOk X.prog X.w X.K X.mg X.base CX0 k f fd ps sp) (hr : Room (k + 1) X.A) (O : L2.Vy.Own1 X.K C f "__getitem__") (hf : PySem.W.fnIn X.K f = true) (hb : Binds X.K fd ps []) (ha : PE X a ta) (hi : PE X b tb)
    (hs : ∀ (x : Addr) (i : Value), subscripted b true (.ref x) i = runValue (.builtin "lifetime.subscript" ⟨[.ref x, i], []⟩)) : PE X (.Subscript a b pos) (tOp (rIxO C sp) ta tb) := by
  refine ⟨fun pins s σ H Q I h => ?_⟩
  refine Subscript_ (thn (ha.run pins s σ H _ I h) fun v s1 ⟨x, H1, I1, rx, q1⟩ => thn (hi.run pins s1 σ H1 _ I1 q1) fun u s2 ⟨y, H2, I2, ry, q2⟩ => ?_)
  obtain ⟨c, dx, fs, rfl, hc, q⟩ := q2
  obtain rfl : v = Value.ref c := rx
  obtain ⟨mA, J, _⟩ := ins_get I2.hok hc
  obtain ⟨od, J, _⟩ := J.look
  obtain ⟨m, fr⟩ := I2.fr
  refine PySem.W.sub_K fr I2.ok.mod.kin J O.hs hf O.hf ?_ (hs _ _)
  have hl := F.len _ _ _ _ q
  have r2 : Vals [V.ref c, y] [Value.ref c, u] := .cons (show RelV (V.ref c) (Value.ref c) from rfl) (.cons ry .nil)
  refine wpAny_call (codeAny_mono (F.run X.A.in1 X.stack s2 H2 ⟨[.ref c, u], []⟩ [.ref c, u] [.ref c, y] _ E0 hr.in1 I2.env0.in1 (by
    have := hb s2 [.ref c, u] I2.kIn (by simpa using hl)
    simpa using this) r2 q) fun r s' hq => ?_)
  cases r with
  | error e => exact (show False from hq).elim
  | ok fl =>
    cases fl with
    | ret w' => exact I2.after hq
    | next => exact False.elim hq
    | brk => exact False.elim hq
    | cont => exact False.elim hq
structure Itm (P : Program) (w : World) (K : PySem.W.Frag) (mg : Str → Option Value) (base : Heap) (C : Addr) (k : Nat) (f : List D → Option D) : Prop where
  ex : ∃ (a : Addr) (fd : FuncData) (ps : List Str), L2.Vy.Own1 K C a "__getitem__" ∧ PySem.W.fnIn K a = true ∧ FnOk P w K mg base CX0 k a fd ps (spP f) ∧ Binds K fd ps []
def itmD (C0 : Addr) (f : List D → Option D) : D → D → Option D := fun x y => match x with
  | .obj C _ _ => if C = C0 then f [x, y] else none
  | _ => none
theorem pu_itm {C0 : Addr} {g : List D → Option D} (h : Itm X.prog X.w X.K X.mg X.base C0 k g) (hr : Room (k + 1) X.A) (ha : PuD X a ta φa) (hb : PuD X b tb φb)
    (hs : ∀ (x : Addr) (i : Value), subscripted b true (.ref x) i = runValue (.builtin "lifetime.subscript" ⟨[.ref x, i], []⟩)) : PuD X (.Subscript a b pos) (tOp (rIxO C0 (spP g)) ta tb) (bin2 (itmD C0 g) φa φb) := by
  obtain ⟨f, fd, ps, h1, h2, h3, h4⟩ := h.ex
  refine ⟨pe_ixO h3 hr h1 h2 h4 ha.pe hb.pe hs, fun ρ d ee G H σ x Q kk => ?_⟩
  obtain ⟨d1, d2, e1, e2, e3⟩ := bin2_un ee
  refine ha.ev ρ d1 e1 G H σ x _ fun v G1 H1 f1 r1 => ?_
  refine hb.ev ρ d2 e2 G1 H1 σ (x.mono f1) _ fun v2 G2 H2 f2 r2 => ?_
  unfold itmD at e3
  split at e3
  · rename_i C ns ds
    split at e3
    · rename_i hC
      subst hC
      obtain ⟨p, dx, us, rfl, q1, q2, q3⟩ := r1.un_obj
      exact ⟨p, dx, _, rfl, f2.gh _ _ (f2.g _ _ q1), G2, [_, d2], d, f2.gh, .cons (r1.mono f2.g) (.cons r2 .nil), e3, fun v G3 H3 f3 r3 => kk v G3 H3 (f1.trans (f2.trans f3)) r3⟩
    · cases e3
  · cases e3
/-! C(e, .., k = v, ..) -/
structure MkrK (P : Program) (w : World) (K : PySem.W.Frag) (mg : Str → Option Value) (base : Heap) (x : Str) (C : Addr) (k n : Nat) (ks : List Str) (f : List D → Option (List Str × List D)) : Prop where
  ex : ∃ (a : Addr) (fd : FuncData) (ps : List Str) (g : List Value → List Value → List Value), Mk K C a ∧ mg x = some (.ref C) ∧ FnOk P w K mg base CX0 k a fd ps (spI C f) ∧ KBn K fd ps (n + 1) ks g (fun vs zs => vs ++ zs)
structure PkD (X : Cx) (kws : List Keyword) (t : TA) (ψ : Env → Option (List D)) : Prop where
  pk : PK X kws t
  ev : ArS t ψ
theorem pk_nilD : PkD X [] tNil nilD := ⟨pk_nil, (ar_nil (X := X)).ev⟩
theorem pk_consD {nm : Option Str} {kpos : Pos} {kws : List Keyword} {tk : TA} (h : PuD X e t φ) (hr : PkD X kws tk ψ) : PkD X (⟨nm, e, kpos⟩ :: kws) (tCons t tk) (consD φ ψ) := ⟨pk_cons h.pe hr.pk, fun ρ d ee G H σ x Q k => by
  obtain ⟨y, ys, e1, e2, rfl⟩ := consD_un ee
  refine h.ev ρ y e1 G H σ x _ fun v G1 H1 f1 r1 => ?_
  exact hr.ev ρ ys e2 G1 H1 σ (x.mono f1) _ fun vs G2 H2 f2 r2 => k _ G2 H2 (f1.trans f2) (.cons (r1.mono f2.g) r2)⟩
def kwF (n m : Nat) (ψ ψ2 : Env → Option (List D)) : Env → Option (List D) := fun ρ => (ψ ρ).bind fun ds => (ψ2 ρ).bind fun es => if ds.length = n ∧ es.length = m then some (ds ++ es) else none
theorem pu_makeK {x : Str} {n : Nat} {ks : List Str} {kws : List Keyword} {f : List D → Option (List Str × List D)} {tr tk : TA} (h : MkrK X.prog X.w X.K X.mg X.base x C k n ks f) (hr : Room (k + 1) X.A) (hg : Gl X x) (ha : ArD X (e :: es) tr ψ) (hk : PkD X kws tk ψ2)
    (hall : (backToKw pos (keywordEach kws X.env)).all (·.1.isSome) = true := by rfl) (hks : (backToKw pos (keywordEach kws X.env)).filterMap (·.1) = ks := by rfl) (hdb : (x == ("__debug__" : Str)) = false := by decide)
    (he : starEach (e :: es) X.env = (false, eval e X.env) :: starEach es X.env := by rfl) (hpl : ((backTo pos (starEach (e :: es) X.env)).any (·.1) || (backToKw pos (keywordEach kws X.env)).any (·.1.isNone)) = false := by rfl) :
    PuD X (.Call (.Name x p) (e :: es) kws pos) (tMakeK C n ks.length (spI C f) (fun vs zs => vs ++ zs) E0 tr tk) (app1 (mkD C f) (kwF n ks.length ψ ψ2)) := by
  obtain ⟨a, fd, ps, g, M, h1, F, h3⟩ := h.ex
  refine ⟨pe_makeK M F hr hg h1 h3 pass0 ha.pa hk.pk hall hks hdb he hpl, fun ρ d ee G H σ x Q kk => ?_⟩
  obtain ⟨ds0, e1, e2⟩ := Option.bind_eq_some_iff.mp ee
  obtain ⟨⟨ns, zs⟩, e3, rfl⟩ := Option.map_eq_some_iff.mp e2
  obtain ⟨ds, e4, e1⟩ := Option.bind_eq_some_iff.mp e1
  obtain ⟨es', e5, e1⟩ := Option.bind_eq_some_iff.mp e1
  split at e1
  · rename_i hl
    cases e1
    refine ha.ev ρ ds e4 G H σ x _ fun vs G1 H1 f1 r1 => ?_
    refine hk.ev ρ es' e5 G1 H1 σ (x.mono f1) _ fun ws G2 H2 f2 r2 => ?_
    have f12 := f1.trans f2
    have rr : Reps G2 (ds ++ es') (vs ++ ws) := (r1.mono f2.g).app r2
    refine ⟨by rw [r1.len]; exact hl.1, by rw [r2.len]; exact hl.2, fun y dx ny ndx nex => ?_⟩
    have e5 : Ex H2 (upd (upd H2 dx (.own y)) y (.ins C dx [])) := (Ex.new ndx).trans (Ex.new (by rw [upd_ne (Ne.symm nex)]; exact ny))
    refine ⟨G2, ds ++ es', y, dx, vs ++ ws, ns, zs, rfl, f2.gh.back ny, upd_same, f2.gh.trans e5, rr, e3, fun G3 H3 dx2 us g1 g2 g3 g4 g5 g6 g7 g8 => ⟨rfl, ?_⟩⟩
    have e6 : Ex H2 H3 := fun c o z => g3 c o (e5 c o z) (ne_of_none z ny)
    refine kk (.ref y) (upd G3 y (.ins C dx2 (ns.zip us))) H3 (f12.trans ⟨g1.trans (Ex.new g5), fun c o z => ?_, e6, fun c z1 z2 => ?_⟩) (.ob upd_same g7 (g8.mono (Ex.new g5)))
    · by_cases q : c = y
      · rw [q, upd_same] at z; cases z; rw [q]; exact g6
      · rw [upd_ne q] at z; exact g2 _ _ z
    · obtain ⟨o, ho⟩ := Option.ne_none_iff_exists'.mp z1
      have hc : c ≠ y := fun q => z1 (q ▸ ny)
      rw [upd_ne hc]
      exact g4 c (by rw [e5 c o ho]; exact fun q => by cases q) z2 hc
  · cases e1
end
end L2.Tr

/-! Trees: {k: v for x in xs}. -/
namespace L2.Tr
open PySem PySem.Spec PyProof.Rows
section
variable {X : Cx} {tg : Expr} {θ : D → Env → Option Env} {φk φv : Env → Option D} {ψ : Env → Option (List D)} {wi : TI} {pos : Pos}
def dcF (θ : D → Env → Option Env) (φk φv : Env → Option D) : List D → Env → Option (List (Key × D))
  | [], _ => some []
  | d :: ds, ρ => (θ d ρ).bind fun ρ1 => (φk ρ1).bind fun y => (keyD y).bind fun k => (φv ρ1).bind fun z => (dcF θ φk φv ds ρ).map ((k, z) :: ·)
def dctF (vs : List Nat) (ψ : Env → Option (List D)) (θ : D → Env → Option Env) (φk φv : Env → Option D) : Env → Option D := fun ρ => (ψ ρ).bind fun ds => if ds.length ≤ Lim then (dcF θ φk φv ds (wipeE ρ vs)).bind fun r => if (r.map (·.1)).Nodup then some (.dct (r.map (·.1)) (r.map (·.2))) else none else none
theorem dcF_len {ρ : Env} : ∀ {ds : List D} {r : List (Key × D)}, dcF θ φk φv ds ρ = some r → r.length = ds.length
  | [], r, h => by cases h; rfl
  | d :: ds, r, h => by
    unfold dcF at h
    obtain ⟨ρ1, _, h⟩ := Option.bind_eq_some_iff.mp h
    obtain ⟨y, _, h⟩ := Option.bind_eq_some_iff.mp h
    obtain ⟨k, _, h⟩ := Option.bind_eq_some_iff.mp h
    obtain ⟨z, _, h⟩ := Option.bind_eq_some_iff.mp h
    obtain ⟨r2, h2, rfl⟩ := Option.map_eq_some_iff.mp h
    rw [List.length_cons, List.length_cons, dcF_len h2]
theorem dc_ev (vs : List Nat) (hi : ItS wi ψ) : PuS (tDc wi (cTg vs θ) (cTe yesF) (cPu φk) (cPu φv) vs) (dctF vs ψ θ φk φv) := fun ρ z ee G H σ x Q k => by
  obtain ⟨ds, e1, e2⟩ := Option.bind_eq_some_iff.mp ee
  split at e2
  · rename_i hlen
    obtain ⟨r, e3, e2⟩ := Option.bind_eq_some_iff.mp e2
    split at e2
    · rename_i hnd
      cases e2
      have hrl := dcF_len e3
      have hLim : Lim = 5000 := rfl
      refine hi ρ ds e1 G H σ x _ fun J G1 H1 Γ Y f1 wk hΓ hY => fun Dl nD => ?_
      have x1 := (x.mono f1).wipe vs
      let Inv : Nat → Hp → Prop := fun i H' => ∃ G' acc us rest, Fr G1 H1 G' H' ∧ G' Dl = none ∧ H' Dl = some (.dK ((acc.map (·.1)).zip us)) ∧ Reps G' (acc.map (·.2)) us ∧ acc.length = i ∧ dcF θ φk φv (ds.drop i) (wipeE ρ vs) = some rest ∧ r = acc ++ rest
      -- the measure: how many turns are left
      refine ⟨fun i left H' => left + i = ds.length ∧ Inv i H', ⟨ds.length, rfl, ⟨G1, [], [], r, .tmp f1.gh nD, f1.gh.back nD, upd_same, .nil, rfl, by rw [List.drop_zero]; exact e3, rfl⟩⟩, ?_⟩
      rintro i left H' ⟨hleft, hinv⟩
      have hΓ' : Γ H' := by
        obtain ⟨G', _, _, _, f', _⟩ := hinv
        exact hΓ H' (f'.g.trans f'.gh)
      by_cases hi' : i < ds.length
      · refine .inr ⟨wk.goes i H' hi' hΓ', Inv (i + 1), fun H2 inv2 => ⟨left - 1, by omega, by omega, inv2⟩, fun y H'' yl => ?_⟩
        have yy := wk.yields i H' y H'' hi' hΓ' yl
        obtain ⟨G', acc, us, rest, f', nG, hD, ra, hl, hc, hz⟩ := hinv
        obtain ⟨d, G'', h1, f2, r2⟩ := hY i H' y H'' G' hi' f'.g f'.gh yy
        have hd : ds.drop i = d :: ds.drop (i + 1) := by
          rw [List.drop_eq_getElem_cons hi']
          congr 1
          rw [List.getElem?_eq_getElem hi'] at h1
          exact Option.some.inj h1
        rw [hd] at hc
        unfold dcF at hc
        obtain ⟨ρ1, e4, hc⟩ := Option.bind_eq_some_iff.mp hc
        obtain ⟨yk, e5, hc⟩ := Option.bind_eq_some_iff.mp hc
        obtain ⟨kk, e6, hc⟩ := Option.bind_eq_some_iff.mp hc
        obtain ⟨zv, e7, hc⟩ := Option.bind_eq_some_iff.mp hc
        obtain ⟨rest2, e8, rfl⟩ := Option.map_eq_some_iff.mp hc
        have f12 := f'.trans f2
        have nG2 : G'' Dl = none := f2.nw _ (by rw [hD]; exact fun z => by cases z) nG
        have hD2 := f2.h _ _ hD
        refine ⟨wipeE ρ vs, ρ1, d, G'', e4, x1.mono f12, r2, fun σ2 x2 _ w2 => ⟨by rw [w2, wipe_wipe fun _ z => z], ρ1, true, G'', rfl, x2, fun G3 H3 f3 => ?_⟩⟩
        have nG3 : G3 Dl = none := f3.nw _ (by rw [hD2]; exact fun z => by cases z) nG2
        dsimp only
        rw [if_pos rfl]
        refine ⟨ρ1, yk, G3, e5, x2.mono f3, fun v4 G4 H4 f4 r4 => ⟨ρ1, zv, G4, e7, (x2.mono f3).mono f4, fun v5 G5 H5 f5 r5 => ?_⟩⟩
        have f35 := f3.trans (f4.trans f5)
        have nG5 : G5 Dl = none := f35.nw _ (by rw [hD2]; exact fun z => by cases z) nG2
        have hD5 := f35.h _ _ hD2
        have f15 := f12.trans f35
        have ra5 := ra.mono (f2.g.trans f35.g)
        have hkl : (acc.map (·.1)).length = us.length := by rw [List.length_map, ra.len, List.length_map]
        have hk : memK kk (acc.map (·.1)) = false := by
          rw [Bool.eq_false_iff]
          intro m
          have m := memK_iff.mp m
          rw [hz, List.map_append, List.map_cons] at hnd
          exact (List.nodup_append.mp hnd).2.2 _ m _ List.mem_cons_self rfl
        have hal : acc.length ≤ Lim := by rw [hl]; omega
        refine ⟨_, kk, keyD_kV e6 (.inl r4 : View G4 H4 _ _), hD5, ?_, G5, acc ++ [(kk, zv)], us ++ [v5], rest2, ⟨f15.g, fun a o q => ?_, fun a o q => ?_, f15.nw⟩, nG5, ?_, ?_, by rw [List.length_append, List.length_singleton, hl], e8, by rw [hz, List.append_assoc]; rfl⟩
        · rw [List.length_zip, List.length_map, sizeLine_eq]; omega
        · have : a ≠ Dl := fun e => by rw [e, nG5] at q; cases q
          rw [upd_ne this]; exact f15.gh _ _ q
        · have : a ≠ Dl := ne_of_none q nD
          rw [upd_ne this]; exact f15.h _ _ q
        · rw [upd_same, putK_zip hk hkl, List.map_append]; rfl
        · rw [List.map_append]; exact ra5.app (.cons r5 .nil)
      · have hi'' : i = ds.length := by omega
        subst hi''
        refine .inl ⟨wk.stops H' hΓ', ?_⟩
        obtain ⟨G', acc, us, rest, f', nG, hD, ra, hl, hc, hz⟩ := hinv
        rw [List.drop_length] at hc
        cases hc
        rw [List.append_nil] at hz
        subst hz
        refine k (.ref Dl) (upd G' Dl (.dK ((r.map (·.1)).zip us))) H' (f1.trans ⟨f'.g.trans (Ex.new nG), fun a o q => ?_, f'.h, fun a h1 h2 => ?_⟩) (.dc upd_same (by rw [List.length_map, List.length_map]) (by rw [List.length_map]; omega) (ra.mono (Ex.new nG)))
        · by_cases q2 : a = Dl
          · rw [q2, upd_same] at q; cases q; rw [q2]; exact hD
          · rw [upd_ne q2] at q; exact f'.gh _ _ q
        · have : a ≠ Dl := fun e => h1 (e ▸ nD)
          rw [upd_ne this]; exact f'.nw a h1 h2
    · cases e2
  · cases e2
theorem pu_dc {kx vx iter : Expr} {scope : Scope} (own : List (Str × Nat)) {g : Shared → Hp → Addr → List (Str × Addr) → List Addr → TG} {te te2 : Shared → Hp → Addr → List (Str × Addr) → List Addr → TE} (hc : X.calm = true) (hN : X.N.Nodup) (hi : ItD X tg iter wi ψ) (ok : BlkOk X.N X.env.scope scope own)
    (hg : ∀ (s : Shared) (H : Hp) (C : Addr) (cl : List (Str × Addr)) (fp : List Addr), TgD (X.blk s H scope (compEnvC scope cl C X.env) fp) tg (g s H C cl fp) θ) (hw : ∀ s H C cl fp, TgW (g s H C cl fp) (own.map (·.2)))
    (hk : ∀ (s : Shared) (H : Hp) (C : Addr) (cl : List (Str × Addr)) (fp : List Addr), PuD (X.blk s H scope (compEnvC scope cl C X.env) fp) kx (te s H C cl fp) φk)
    (he : ∀ (s : Shared) (H : Hp) (C : Addr) (cl : List (Str × Addr)) (fp : List Addr), PuD (X.blk s H scope (compEnvC scope cl C X.env) fp) vx (te2 s H C cl fp) φv) (hs : ∀ x, foldedSetIterable iter X.env x = pure x := by intro _; rfl) :
    PuD X (.DictComp kx vx [⟨tg, iter, [], 0⟩] scope pos) (tDc wi (cTg (own.map (·.2)) θ) (cTe yesF) (cPu φk) (cPu φv) (own.map (·.2))) (dctF (own.map (·.2)) ψ θ φk φv) :=
  ⟨pe_dc hc hN hi.pi ok (fun s H C cl fp => (hg s H C cl fp).c (hw s H C cl fp)) (fun s H C cl fp => ⟨fun pins s' σ H' Q I ⟨ρ, b, G, h1, h2, h3⟩ => pts_nil.run pins s' σ H' Q I (ts_nil ρ b h1 G H' σ h2 Q h3)⟩) (fun s H C cl fp => (hk s H C cl fp).c) (fun s H C cl fp => (he s H C cl fp).c) hs, dc_ev _ hi.ev⟩
end
end L2.Tr

/-! Trees: == of dicts that hold plain data. -/
namespace L2.Tr
open PySem PySem.Spec PyProof.Rows
def eqHits : List Key → List PyData → List Key → List PyData → Bool
  | k :: ks, p :: ps, ls, qs => match valV' ls qs k with
    | none => false
    | some q => PyData.eqv p q && eqHits ks ps ls qs
  | _, _, _, _ => true
where valV' : List Key → List PyData → Key → Option PyData
  | k :: ks, q :: qs, x => if k = x then some q else valV' ks qs x
  | _, _, _ => none
def eqDct : D → D → Option D
  | .dct ks ds, .dct ls es => (pyDs ds).bind fun ps => (pyDs es).bind fun qs => if ps.all SeqAt.shaped = true ∧ qs.all SeqAt.shaped = true then some (bD (decide (ks.length = ls.length) && eqHits ks ps ls qs)) else none
  | _, _ => none
section
variable {X : Cx} {K : PySem.W.Frag}
theorem dpAll_len {H : Hp} : ∀ {us : List V} {ps : List PyData}, DpAll K H us ps → us.length = ps.length
  | _, _, .nil => rfl
  | _, _, .cons _ t => by rw [List.length_cons, List.length_cons, dpAll_len t]
theorem val_find {H : Hp} {x : Key} : ∀ {ls : List Key} {ws : List V} {qs : List PyData}, DpAll K H ws qs → (match eqHits.valV' ls qs x with
    | none => valV (ls.zip ws) x = none
    | some q => ∃ v, valV (ls.zip ws) x = some v ∧ Dp K H v q ∧ q ∈ qs)
  | [], ws, qs, _ => by simp [eqHits.valV', valV]
  | l :: ls, _, _, .nil => by simp [eqHits.valV', valV]
  | l :: ls, _, _, .cons (v := v) (d := d) (vs := vs) (ds := ds) h t => by
    unfold eqHits.valV'
    by_cases e : l = x
    · rw [if_pos e]
      exact ⟨v, valV_pos e, h, List.mem_cons_self⟩
    · rw [if_neg e]
      have ih := val_find (x := x) (ls := ls) t
      rw [List.zip_cons_cons, valV_neg e]
      cases q : eqHits.valV' ls ds x with
      | none => rw [q] at ih; exact ih
      | some z =>
        rw [q] at ih
        obtain ⟨u, h1, h2, h3⟩ := ih
        exact ⟨u, h1, h2, List.mem_cons_of_mem _ h3⟩
theorem hits_ok {pins : List (Addr × Obj)} {σ : St} {H : Hp} {s : Shared} {A : Around} (I : Inv X pins σ H s) (hu : A.in1.units + 64 < cLine) {ls : List Key} {ws : List V} {qs : List PyData} (dq : DpAll X.K H ws qs) (sq : qs.all SeqAt.shaped = true) {vb : List (Key × Value)} (rb : KV (ls.zip ws) vb) :
    ∀ {ks : List Key} {us : List V} {ps : List PyData} {va : List (Key × Value)}, ks.length = us.length → DpAll X.K H us ps → ps.all SeqAt.shaped = true → KV (ks.zip us) va → PySem.W.KeqHitsP X.prog X.w A.in1 s vb va (eqHits ks ps ls qs)
  | [], us, ps, va, hl, dp, sp, ra => by
    unfold KV at ra
    cases ra
    unfold eqHits
    exact .nil
  | k :: ks, [], ps, va, hl, dp, sp, ra => by simp at hl
  | k :: ks, u :: us, ps, va, hl, dp, sp, ra => by
    cases dp with
    | @cons _ _ p ps h t =>
      rw [List.zip_cons_cons] at ra
      unfold KV at ra
      cases ra with
      | @cons _ b _ bs h0 t0 =>
        obtain ⟨h1, h2⟩ := h0
        obtain ⟨key, v⟩ := b
        have h1 : k = key := h1
        subst h1
        rw [List.all_cons, Bool.and_eq_true] at sp
        have f := val_find (x := k) (ls := ls) dq
        unfold eqHits
        cases e : eqHits.valV' ls qs k with
        | none =>
          rw [e] at f
          have rr : RelO none (valueAt vb k) := by rw [← show valV (ls.zip ws) k = none from f]; exact rb.val k
          refine .miss ?_
          cases q : valueAt vb k with
          | none => rfl
          | some y => rw [q] at rr; exact rr.elim
        | some q =>
          rw [e] at f
          obtain ⟨w, f1, f2, f3⟩ := f
          have rr : RelO (some w) (valueAt vb k) := by rw [← f1]; exact rb.val k
          obtain ⟨y, hy, ry⟩ := rr.some_of
          obtain ⟨as, r1⟩ := Dp.reads I p u v h h2
          obtain ⟨bs2, r2⟩ := Dp.reads I q w y f2 ry
          exact .hit hy (PySem.W.keq_at (A := A) r1 r2 sp.1 (List.all_eq_true.mp sq q f3) hu).eqP (hits_ok I hu dq sq rb (by simpa using hl) t sp.2 t0)
def rEqDct (K : PySem.W.Frag) (neg : Bool) : R2 := fun x y H Q => ∃ (a b : Addr) (ks ls : List Key) (us ws : List V) (ps qs : List PyData), x = .ref a ∧ y = .ref b ∧ H a = some (.dK (ks.zip us)) ∧ H b = some (.dK (ls.zip ws)) ∧ ks.length = us.length ∧ ls.length = ws.length ∧
  DpAll K H us ps ∧ DpAll K H ws qs ∧ ps.all SeqAt.shaped = true ∧ qs.all SeqAt.shaped = true ∧ Q (.bl (xor neg (decide (ks.length = ls.length) && eqHits ks ps ls qs))) H
theorem op_eqDct (hu : X.A.units + 70 < cLine) : OpR X (compareOp .Eq) (rEqDct X.K false) := by
  intro pins s σ H x y v u Q I rx ry h
  obtain ⟨a, b, ks, ls, us, ws, ps, qs, rfl, rfl, ha, hb, hl, hl2, dp, dq, sp, sq, q⟩ := h
  obtain rfl : v = Value.ref a := rx
  obtain rfl : u = Value.ref b := ry
  obtain ⟨_, ya, va, ra, da⟩ := dk_of I.hok ha
  obtain ⟨_, yb, vb, rb, db⟩ := dk_of I.hok hb
  show wpAny _ _ (richCompare .Eq (.ref a) (.ref b)) _ _ _
  refine PySem.W.rcP_dicts (knd := mixKind X.prog X.w) (r := eqHits ks ps ls qs) ya yb da db (by omega) (fun _ => hits_ok I (by show X.A.units + 1 + 64 < cLine; omega) dq sq rb hl dp sp ra) _ _ ?_
  refine ⟨.bl _, H, I, rfl, ?_⟩
  have e : (va.length == vb.length) = decide (ks.length = ls.length) := by
    have e1 := ra.length
    have e2 := rb.length
    rw [List.length_zip, ← hl, Nat.min_self] at e1
    rw [List.length_zip, ← hl2, Nat.min_self] at e2
    rw [← e1, ← e2]
    by_cases z : ks.length = ls.length
    · simp [z]
    · simp [z]
  rw [e]
  rwa [Bool.false_xor] at q
theorem r2_eqDct : R2D (rEqDct K false) eqDct := fun d1 d2 z e G H v1 v2 x r1 r2 Q k => by
  unfold eqDct at e
  split at e
  · rename_i ks ds ls es
    obtain ⟨ps, h1, e⟩ := Option.bind_eq_some_iff.mp e
    obtain ⟨qs, h2, e⟩ := Option.bind_eq_some_iff.mp e
    split at e
    · rename_i hs
      cases e
      obtain ⟨a, us, rfl, ha, l0, l1, q1⟩ := (r1.rep x).un_dct
      obtain ⟨b, ws, rfl, hb, l2, l3, q2⟩ := (r2.rep x).un_dct
      exact ⟨a, b, ks, ls, us, ws, ps, qs, rfl, rfl, ha, hb, by rw [l0, q1.len], by rw [l2, q2.len], reps_dp h1 q1, reps_dp h2 q2, hs.1, hs.2, k _ G H (.refl x) (by rw [Bool.false_xor]; exact .lf rfl)⟩
    · cases e
  · cases e
end
end L2.Tr

/-! Trees: int(x), sorted(..), and what their emitted derivations name. -/
namespace L2.Tr
open PySem PySem.Spec PyProof.Rows
structure TxB2 (mg : Str → Option Value) : Prop extends TxB mg where
  z_sorted : mg "sorted" = none
theorem hu9 {A : Around} {k : Nat} (hr : Room k A) : A.units + 9 < cLine := by have := hr.un; omega
theorem hu70 {A : Around} {k : Nat} (hr : Room k A) : A.units + 70 < cLine := by have := hr.un; omega
def intD1 : List D → Option D
  | [.leaf (.int i)] => some (.leaf (.int i))
  | [.leaf (.bl b)] => some (.leaf (.int (if b then 1 else 0)))
  | _ => none
section
variable {X : Cx} {e : Expr} {es : List Expr} {pos p : Pos} {ψ : Env → Option (List D)} {tr : TA} {r : List V → Hp → VK → Prop} {opO : List D → Option (List D)} {id : String} {x : Str}
theorem r1_int : R1D (fun xs H Q => (∃ i, xs = [V.int i] ∧ Q (.int i) H) ∨ ∃ k, xs = [V.bl k] ∧ Q (.int (if k then 1 else 0)) H) intD1 := fun ds z e G H vs x r1 Q k => by
  unfold intD1 at e
  split at e
  · rename_i i
    cases e
    obtain ⟨v, rfl, r⟩ := views1 r1
    obtain ⟨rfl, _⟩ := r.lf
    exact .inl ⟨i, rfl, k _ G H (.refl x) (.lf rfl)⟩
  · rename_i b
    cases e
    obtain ⟨v, rfl, r⟩ := views1 r1
    obtain ⟨rfl, _⟩ := r.lf
    exact .inr ⟨b, rfl, k _ G H (.refl x) (.lf rfl)⟩
  · cases e
theorem ow_cb (hc : CallR X (.builtin id) r) (hd : R1O r opO) (hg : Gl X x) (hm : X.mg x = none) (hv : bootBuiltins x = some (.builtin id)) (ha : AvD X (e :: es) tr ψ) (hn : x ≠ "__name__" := by decide) (hdb : (x == ("__debug__" : Str)) = false := by decide)
    (he : starEach (e :: es) X.env = (false, eval e X.env) :: starEach es X.env := by rfl) (hpl : (backTo pos (starEach es X.env)).any (·.1) = false := by rfl) : OwD X (.Call (.Name x p) (e :: es) [] pos) (tCB r tr) (app1 opO ψ) := ⟨pe_callB hc hg hm hv ha.pa hn hdb he hpl, cb_evO hd ha.ev⟩
end
end L2.Tr

/-! Trees: [.. for k in d], d a dict that a name holds: it is locked while the comprehension runs. -/
namespace L2.Tr
open PySem PySem.Spec PyProof.Rows
theorem set_same {α : Type} {xs : List α} {i : Nat} {x : α} (h : xs[i]? = some x) : xs.set i x = xs := by
  apply List.ext_getElem?
  intro j
  by_cases e : i = j
  · subst e
    rw [List.getElem?_set_self (List.getElem?_eq_some_iff.mp h).1, h]
  · rw [List.getElem?_set_ne e]
section
variable {X : Cx} {tg elt : Expr} {φ : Env → Option D} {χ : Env → Option Bool} {θ : D → Env → Option Env} {pos : Pos}
/-- the slots while slot i's dict is locked -/
def lkE (i : Nat) (ρ : Env) : Env := match ρ[i]? with
  | some (.pu (.dct ks xs)) => if plainDs xs = true then (cutE ρ).set i (.pu (.frz ks xs)) else cutE ρ
  | _ => cutE ρ
theorem lk_ok {G G' H' : Hp} {σ : St} {ρ : Env} (x : EnvOk G' H' σ (cutE ρ)) {i : Nat} {ks : List Key} {xs : List D} (h1 : ρ[i]? = some (.pu (.dct ks xs))) {dd : Addr} {od : Obj} {ws : List V} (h2 : σ[i]? = some (some (.ref dd))) (hg : G' dd = some (.frz od (.dK (ks.zip ws)))) (hl : ks.length = xs.length) (hm : xs.length ≤ Lim) (e : ExS G G') (r : Reps G xs ws) : EnvOk G' H' σ (lkE i ρ) := by
  unfold lkE
  rw [h1]
  dsimp only
  by_cases hp : plainDs xs = true
  · rw [if_pos hp]
    have := x.setP (Rep.fz hg hl hm (Reps.plain e hp r)) i
    rwa [set_same h2] at this
  · rw [if_neg hp]; exact x
/-- what [elt for tg in d] makes; what is made is plain -/
def lkF (i : Nat) (vs : List Nat) (θ : D → Env → Option Env) (φ : Env → Option D) : Env → Option (List D) := fun ρ => match ρ[i]? with
  | some (.pu (.dct ks _)) => if ks.all okKey = true then (compF θ yesF φ (ks.map keyV) (wipeE (lkE i ρ) vs)).bind fun zs => if plainDs zs = true then some zs else none else none
  | _ => none
theorem ow_keysC {i : Nat} {scope : Scope} {iter : Expr} (own : List (Str × Nat)) (hc : X.calm = true) (hN : X.N.Nodup)
    {g : Shared → Hp → Addr → List (Str × Addr) → List Addr → TG} {te : Shared → Hp → Addr → List (Str × Addr) → List Addr → TE}
    (ho : PE X iter (tVar i))
    (ok : BlkOk X.N X.env.scope scope own)
    (ht : ∀ (s : Shared) (H : Hp) (C : Addr) (cl : List (Str × Addr)) (fp : List Addr), TgD (X.blk s H scope (compEnvC scope cl C X.env) fp) tg (g s H C cl fp) θ) (hw : ∀ s H C cl fp, TgW (g s H C cl fp) (own.map (·.2)))
    (he : ∀ (s : Shared) (H : Hp) (C : Addr) (cl : List (Str × Addr)) (fp : List Addr), PuD (X.blk s H scope (compEnvC scope cl C X.env) fp) elt (te s H C cl fp) φ)
    (hsI : ∀ x, foldedSetIterable iter X.env x = pure x := by intro _; rfl) :
    OwD X (.ListComp elt [⟨tg, iter, [], 0⟩] scope pos)
      (tLockE (tLc (iKeys (tVar i)) (cTg (own.map (·.2)) θ) (cTe yesF) (cPu φ) (own.map (·.2)))) (lkF i (own.map (·.2)) θ φ) :=
  ⟨pe_lock (pe_lc hc hN (pi_keys ho) ok (fun s H C cl fp => (ht s H C cl fp).c (hw s H C cl fp))
      (fun s H C cl fp => ⟨fun pins s' σ H' Q I ⟨ρ, b, G, h1, h2, h3⟩ => pts_nil.run pins s' σ H' Q I (ts_nil ρ b h1 G H' σ h2 Q h3)⟩) (fun s H C cl fp => (he s H C cl fp).c) hsI), fun ρ z ee G H σ x Q k => by
    unfold lkF at ee
    split at ee
    · rename_i ks xs h1
      split at ee
      · rename_i hok
        obtain ⟨zs, e3, ee⟩ := Option.bind_eq_some_iff.mp ee
        split at ee
        · rename_i hp
          cases ee
          obtain ⟨v, h2, h3⟩ := x.pu i _ h1
          obtain ⟨dd, ws, rfl, hd, l1, l2, qs⟩ := h3.un_dct
          have hHd := x.gh _ _ hd
          refine ⟨dd, .dK (ks.zip ws), hHd, trivial, fun od => ?_⟩
          have exS : ExS G (upd G dd (.frz od (.dK (ks.zip ws)))) := fun c b0 us0 hh => by
            have : c ≠ dd := fun z => by rw [z, hd] at hh; exact mkS_ne (Option.some.inj hh).symm
            rw [upd_ne this]; exact hh
          have exG : Ex (upd G dd (.frz od (.dK (ks.zip ws)))) (upd H dd (.frz od (.dK (ks.zip ws)))) := fun c o hh => by
            by_cases q : c = dd
            · rw [q, upd_same] at hh ⊢; exact hh
            · rw [upd_ne q] at hh ⊢; exact x.gh _ _ hh
          have x' := lk_ok (x.cut exS exG) h1 h2 upd_same l1 l2 exS qs
          have lz : (ks.zip ws).length = (ks.map keyV).length := by rw [List.length_zip, List.length_map, qs.len, l1, Nat.min_self]
          have hlen : (ks.map keyV).length ≤ Lim := by rw [List.length_map, l1]; exact l2
          have fin : ItAt (iKeys (tVar i)) (ks.map keyV) (upd G dd (.frz od (.dK (ks.zip ws)))) (upd H dd (.frz od (.dK (ks.zip ws)))) σ := fun R kR => by
            refine ⟨.ref dd, h2, dd, od, rfl, .inl ⟨_, upd_same, ?_⟩⟩
            refine kR _ _ _ (fun H' => H' dd = some (.frz od (.dK (ks.zip ws)))) _ (.refl exG) (by rw [← lz]; exact walk_keys) (fun H' g => g _ _ upd_same) ?_
            rintro j H' y H'' G' hj g1 g2 ⟨rfl, kk, vv, e4, rfl⟩
            have e5 : ks[j]? = some kk := by
              have := congrArg (Option.map Prod.fst) e4
              rw [← List.getElem?_map, zip_fst (by rw [qs.len, l1])] at this
              exact this
            refine ⟨keyV kk, G', by rw [List.getElem?_map, e5]; rfl, .refl g2, ?_⟩
            have hk := List.all_eq_true.mp hok kk (List.mem_of_getElem? e5)
            cases kk with
            | inl i => exact .lf rfl
            | inr x => exact .lf hk
          refine lc_at (own.map (·.2)) fin x' hlen e3 (fun v H' => H' dd = some (.frz od (.dK (ks.zip ws))) ∧ Q v (upd H' dd (.dK (ks.zip ws)))) fun pp us3 G2 H2 f2 n1 n2 h4 l4 q4 => ?_
          have gd : G2 dd = some (.frz od (.dK (ks.zip ws))) := f2.g _ _ upd_same
          have hpd : pp ≠ dd := fun z => by rw [z, gd] at n2; cases n2
          refine ⟨f2.gh _ _ gd, k pp us3 (upd G2 dd (.dK (ks.zip ws))) _ ⟨fun c o hh => ?_, fun c o hh => ?_, fun c o hh => ?_, fun c c1 c2 => ?_⟩ ?_ ?_ ?_ l4 (Reps.plain (fun c b0 us0 hh => ?_) hp q4)⟩
          · by_cases q : c = dd
            · rw [q, upd_same]; rw [q, hd] at hh; exact hh
            · rw [upd_ne q]; exact f2.g _ _ (by rw [upd_ne q]; exact hh)
          · by_cases q : c = dd
            · rw [q, upd_same] at hh ⊢; exact hh
            · rw [upd_ne q] at hh ⊢; exact f2.gh _ _ hh
          · by_cases q : c = dd
            · rw [q, upd_same]; rw [q, hHd] at hh; exact hh
            · rw [upd_ne q]; exact f2.h _ _ (by rw [upd_ne q]; exact hh)
          · have q : c ≠ dd := fun z => by rw [z, hd] at c2; cases c2
            rw [upd_ne q]
            exact f2.nw _ (by rw [upd_ne q]; exact c1) (by rw [upd_ne q]; exact c2)
          · rw [upd_ne hpd] at n1; exact n1
          · rw [upd_ne hpd]; exact n2
          · rw [upd_ne hpd]; exact h4
          · have : c ≠ dd := fun z => by rw [z, gd] at hh; cases b0 <;> cases hh
            rw [upd_ne this]; exact hh
        · cases ee
      · cases ee
    · cases ee⟩
end
end L2.Tr

/-! Trees: != of two lists whose things are equal, dicts of plain data among them. -/
namespace PySem.SeqAt
open AutoSeq1 (wpAny_loadPart')
open MeetsSeq MeetsSeq2 MeetsSeq3 SeqRoads2
section
variable {P : Program} {w : World} {l b : Addr} {xs ys : Array Value}
/-- from place i on, all equal: it tells False -/
theorem neEqGo {c c2 : Nat} {dd dd2 : Option Addr} {sl sl2 : Array (Option Value)} (hs : xs.size = ys.size) : ∀ k i : Nat, k + i = xs.size →
    MeetsIn P w (Builtin.«list.__eq__.loop» ⟨[.ref l, .ref b, rawInt i, rawInt 3], []⟩) (fun A R s =>
      s.heap.get? l = some { cls := .type "list", dict := dd, data := .seq xs c, slots := sl } ∧ s.heap.get? b = some { cls := .type "list", dict := dd2, data := .seq ys c2, slots := sl2 } ∧
      (∀ j (p : j < xs.size) (q : j < ys.size), EqP P w A.in1 s xs[j] ys[j] true) ∧ R (.ok (.ret (.bool false))) s)
  | 0, i, hk => by
    intro A R s ⟨h1, h2, he, h⟩
    obtain ⟨hp, gl, dt, tk, os⟩ := s
    wp_walk using wpAny_loadPart' h1, wpAny_loadPart' h2
    have n1 : xs[((i : Nat) : Int).toNat]? = none := by simp; omega
    have n2 : ys[((i : Nat) : Int).toNat]? = none := by simp; omega
    rw [n1, n2]
    wp_walk using wpAny_loadPart' h1, wpAny_loadPart' h2
    show R (.ok (.ret (.bool (xs.size != ys.size)))) _
    rw [show (xs.size != ys.size) = false by rw [hs]; simp]
    exact h
  | k + 1, i, hk => by
    intro A R s ⟨h1, h2, he, h⟩
    obtain ⟨hp, gl, dt, tk, os⟩ := s
    wp_walk using wpAny_loadPart' h1, wpAny_loadPart' h2
    have lx : i < xs.size := by omega
    have ly : i < ys.size := by omega
    have n1 : xs[((i : Nat) : Int).toNat]? = some xs[i] := by simp [lx]
    have n2 : ys[((i : Nat) : Int).toNat]? = some ys[i] := by simp [ly]
    rw [n1, n2]
    refine wpAny_bind (he i lx ly _ _ ?_)
    wp_walk
    rw [show ((i : Int) + 1) = ((i + 1 : Nat) : Int) by push_cast; rfl]
    refine ⟨plainId_quiet plain_eq_loop _, codeAny_builtin entry_eq_loop ?_⟩
    rw [Around.under_plainId plain_eq_loop _]
    exact neEqGo hs k (i + 1) (by omega) A R _ ⟨h1, h2, he, h⟩
theorem rcNe_eqs {A : Around} {s : Shared} (hl : s.heap.IsList l xs) (hb : s.heap.IsList b ys) (hs : xs.size = ys.size) (hu : A.units < cLine)
    (he : ∀ j (p : j < xs.size) (q : j < ys.size), EqP P w A.in1 s xs[j] ys[j] true) (E Q : Value → Shared → Prop) (h : Q (.bool false) s) : wpAny (model P w) A (richCompare .NotEq (.ref l) (.ref b)) Q E s := by
  obtain ⟨⟨cl1, d1, da1, sl1⟩, o1, rfl, c1, e1⟩ := id hl
  obtain ⟨⟨cl2, d2, da2, sl2⟩, o2, e2, c2, e3⟩ := id hb
  simp only at e1 e2 e3
  subst e1 e2 e3
  have all : MeetsIn P w (Builtin.«list.__ne__» ⟨[.ref l, .ref b], []⟩) (fun A R s =>
      s.heap.get? l = some { cls := .type "list", dict := d1, data := .seq xs c1, slots := sl1 } ∧ s.heap.get? b = some { cls := .type "list", dict := d2, data := .seq ys c2, slots := sl2 } ∧
      (∀ j (p : j < xs.size) (q : j < ys.size), EqP P w A.in1 s xs[j] ys[j] true) ∧ R (.ok (.ret (.bool false))) s) := by
    intro A R s ⟨h1, h2, he, h⟩
    obtain ⟨hp, gl, dt, tk, os⟩ := s
    have sub := AutoSeq1.sub_list_list
    have ne : ¬ (xs.size != ys.size) = true := by simp [hs]
    wp_walk using wpAny_loadPart' h1, wpAny_loadPart' h2
    refine ⟨plainId_quiet plain_eq_loop _, codeAny_builtin entry_eq_loop ?_⟩
    rw [Around.under_plainId plain_eq_loop _]
    exact neEqGo hs xs.size 0 rfl A R _ ⟨h1, h2, he, h⟩
  have ta : s.TypeIs (.ref l) "list" := ⟨_, o1, rfl⟩
  exact wpAny_richCompare_same_room (op := .NotEq) ta ⟨_, o2, rfl⟩ F.slot_list_ne (call_meetsIn F.slot_list_ne ta F.entry_list_ne (F.args_list_ne_2 _ _) all ⟨o1, o2, he, show Value.bool false ≠ Value.notImplemented ∧ Q (.bool false) s from ⟨(fun z => by cases z), h⟩⟩) hu
end
end PySem.SeqAt
namespace L2.Tr
open PySem PySem.Spec PyProof.Rows
section
variable {X : Cx} {K : PySem.W.Frag}
/-- equal: plain data, or dicts of such -/
def EqE (K : PySem.W.Frag) (H : Hp) (x y : V) : Prop := (∃ p q, Dp K H x p ∧ Dp K H y q ∧ SeqAt.shaped p = true ∧ SeqAt.shaped q = true ∧ PyData.eqv p q = true) ∨
  ∃ (a b : Addr) (ks ls : List Key) (us ws : List V) (ps qs : List PyData), x = .ref a ∧ y = .ref b ∧ H a = some (.dK (ks.zip us)) ∧ H b = some (.dK (ls.zip ws)) ∧ ks.length = us.length ∧ ls.length = ws.length ∧
    DpAll K H us ps ∧ DpAll K H ws qs ∧ ps.all SeqAt.shaped = true ∧ qs.all SeqAt.shaped = true ∧ (decide (ks.length = ls.length) && eqHits ks ps ls qs) = true
theorem eqE_run {pins : List (Addr × Obj)} {σ : St} {H : Hp} {s : Shared} {A : Around} (I : Inv X pins σ H s) (hu : A.units + 66 < cLine) {x y : V} {v u : Value} (h : EqE X.K H x y) (rx : RelV x v) (ry : RelV y u) : SeqAt.EqP X.prog X.w A s v u true := by
  rcases h with ⟨p, q, d1, d2, s1, s2, e⟩ | ⟨a, b, ks, ls, us, ws, ps, qs, rfl, rfl, ha, hb, hl, hl2, dp, dq, sp, sq, e⟩
  · obtain ⟨as, r1⟩ := Dp.reads I p x v d1 rx
    obtain ⟨bs, r2⟩ := Dp.reads I q y u d2 ry
    rw [← e]
    exact (SeqAt.EqAt.of_in1 (PySem.W.keq_at (A := A) r1 r2 s1 s2 (by show A.units + 1 + 64 < cLine; omega))).eqP
  · obtain rfl : v = Value.ref a := rx
    obtain rfl : u = Value.ref b := ry
    by_cases hab : a = b
    · subst hab
      exact (SeqAt.EqAt.same _).eqP
    · obtain ⟨_, ya, va, ra, da⟩ := dk_of I.hok ha
      obtain ⟨_, yb, vb, rb, db⟩ := dk_of I.hok hb
      refine SeqAt.eqP_refs hab fun E Q q => PySem.W.rcP_dicts (knd := mixKind X.prog X.w) (r := eqHits ks ps ls qs) ya yb da db (by omega) (fun _ => hits_ok I (by show A.units + 1 + 64 < cLine; omega) dq sq rb hl dp sp ra) _ _ ?_
      have e1 := ra.length
      have e2 := rb.length
      rw [List.length_zip, ← hl, Nat.min_self] at e1
      rw [List.length_zip, ← hl2, Nat.min_self] at e2
      rw [Bool.and_eq_true] at e
      have e3 : (va.length == vb.length && eqHits ks ps ls qs) = true := by
        rw [← e1, ← e2, of_decide_eq_true e.1, e.2]; simp
      rw [e3]
      exact q
def rNeAll (K : PySem.W.Frag) : R2 := fun x y H Q => ∃ a b xs ys, x = .ref a ∧ y = .ref b ∧ SqL K H a xs ∧ SqL K H b ys ∧ Paired (EqE K H) xs ys ∧ Q (.bl false) H
theorem pair_run {F : V → V → Prop} {G : Value → Value → Prop} (ih : ∀ x y v u, F x y → RelV x v → RelV y u → G v u) {xs ys : List V} (hp : Paired F xs ys) :
    ∀ {us ws : List Value}, L2.Vals xs us → L2.Vals ys ws → ∀ (j : Nat) (p : j < us.length) (q : j < ws.length), G us[j] ws[j] := by
  induction hp with
  | nil => intro us ws r1 r2 j p; cases r1; simp at p
  | cons h t k =>
    intro us ws r1 r2
    cases r1 with
    | cons a1 b1 => cases r2 with
      | cons a2 b2 =>
        intro j p q
        cases j with
        | zero => exact ih _ _ _ _ h a1 a2
        | succ j => exact k b1 b2 j (by simpa using p) (by simpa using q)
theorem op_neAll (hu : X.A.units + 70 < cLine) : OpR X (compareOp .NotEq) (rNeAll X.K) := by
  intro pins s σ H x y v u Q I rx ry h
  obtain ⟨a, b, xs, ys, rfl, rfl, ha, hb, hp, q⟩ := h
  obtain rfl : v = Value.ref a := rx
  obtain rfl : u = Value.ref b := ry
  obtain ⟨us, r1, p1, _⟩ := I.list ha
  obtain ⟨ws, r2, p2, _⟩ := I.list hb
  have hs : us.toArray.size = ws.toArray.size := by
    rw [List.size_toArray, List.size_toArray, ← r1.length, ← r2.length]; exact Paired.length hp
  show wpAny _ _ (richCompare .NotEq (.ref a) (.ref b)) _ _ _
  refine SeqAt.rcNe_eqs p1.isList p2.isList hs (by omega) (fun j h1 h2 => ?_) _ _ ⟨.bl false, H, I, rfl, q⟩
  have := pair_run (G := fun v u => SeqAt.EqP X.prog X.w X.A.in1 s v u true) (fun x y v u h r r' => eqE_run I (by show X.A.units + 1 + 66 < cLine; omega) h r r') hp r1 r2 j (by simpa using h1) (by simpa using h2)
  simpa using this
def eqE (d e : D) : Bool := match pyD d, pyD e with
  | some p, some q => SeqAt.shaped p && SeqAt.shaped q && PyData.eqv p q
  | _, _ => match d, e with
    | .dct ks ds, .dct ls es => match pyDs ds, pyDs es with
      | some ps, some qs => ps.all SeqAt.shaped && qs.all SeqAt.shaped && (decide (ks.length = ls.length) && eqHits ks ps ls qs)
      | _, _ => false
    | _, _ => false
theorem eqE_of {G H : Hp} {d e : D} {x y : V} (h : eqE d e = true) (r1 : Rep H d x) (r2 : Rep H e y) : EqE K H x y := by
  unfold eqE at h
  split at h
  · rename_i p q h1 h2
    rw [Bool.and_eq_true, Bool.and_eq_true] at h
    exact .inl ⟨p, q, rep_dp h1 r1, rep_dp h2 r2, h.1.1, h.1.2, h.2⟩
  · split at h
    · rename_i ks ds ls es _
      split at h
      · rename_i ps qs h1 h2
        rw [Bool.and_eq_true, Bool.and_eq_true] at h
        obtain ⟨a, us, rfl, ha, l0, l1, q1⟩ := r1.un_dct
        obtain ⟨b, ws, rfl, hb, l2, l3, q2⟩ := r2.un_dct
        exact .inr ⟨a, b, ks, ls, us, ws, ps, qs, rfl, rfl, ha, hb, by rw [l0, q1.len], by rw [l2, q2.len], reps_dp h1 q1, reps_dp h2 q2, h.1.1, h.1.2, h.2⟩
      · cases h
    · cases h
def eqEs : List D → List D → Bool
  | [], [] => true
  | d :: ds, e :: es => eqE d e && eqEs ds es
  | _, _ => false
theorem eqEs_of {H : Hp} : ∀ {ds es : List D} {us ws : List V}, eqEs ds es = true → Reps H ds us → Reps H es ws → Paired (EqE K H) us ws
  | [], [], _, _, _, r1, r2 => by rw [r1.un0, r2.un0]; exact .nil
  | d :: ds, e :: es, _, _, h, r1, r2 => by
    obtain ⟨u, r, rfl, a, b⟩ := r1.un
    obtain ⟨w, t, rfl, c, f⟩ := r2.un
    unfold eqEs at h
    rw [Bool.and_eq_true] at h
    exact .cons (eqE_of (G := H) h.1 a c) (eqEs_of h.2 b f)
  | [], _ :: _, _, _, h, _, _ => by cases h
  | _ :: _, [], _, _, h, _, _ => by cases h
/-- != of two lists that are equal -/
def neLD : D → D → Option D
  | .seq true ds, .seq true es => if eqEs ds es = true then some (bD false) else none
  | _, _ => none
theorem r2_neL : R2D (rNeAll K) neLD := fun d1 d2 z e G H v1 v2 x r1 r2 Q k => by
  unfold neLD at e
  split at e
  · split at e
    · rename_i ds es h
      cases e
      obtain ⟨a, us, rfl, ha, _, q1⟩ := (r1.rep x).un_sq
      obtain ⟨b, ws, rfl, hb, _, q2⟩ := (r2.rep x).un_sq
      exact ⟨a, b, us, ws, rfl, rfl, SqL.of ha, SqL.of hb, eqEs_of h q1 q2, k _ G H (.refl x) (.lf rfl)⟩
    · cases e
  · cases e
end
end L2.Tr

/-! Trees beside something that changes: readings that leave open what comes (what is drawn), and exceptions. -/
namespace L2.Tr
open PySem PySem.Spec PyProof.Rows
/-- what stands beside the trees: what it says of the heap, and at which addresses -/
structure Om (τ : Type) where
  I : τ → Hp → Prop
  F : τ → Addr → Prop
  ext : ∀ t H H', I t H → (∀ a o, F t a → H a = some o → H' a = some o) → I t H'
  has : ∀ t H a, I t H → F t a → H a ≠ none
section
variable {τ : Type} (Ω : Om τ)
structure EnvW (s : τ) (G H : Hp) (σ : St) (ρ : Env) : Prop where
  x : EnvOk G H σ ρ
  i : Ω.I s H
  g : ∀ a, Ω.F s a → G a = none
  o : ∀ a, Ω.F s a → ¬ Own σ ρ a
structure FrW (s : τ) (G H : Hp) (s2 : τ) (G2 H2 : Hp) : Prop where
  g : Ex G G2
  gh : Ex G2 H2
  h : ∀ a o, H a = some o → ¬ Ω.F s a → H2 a = some o
  nw : ∀ a, H a ≠ none → G a = none → G2 a = none
  i : Ω.I s2 H2
  fp : ∀ a, Ω.F s2 a → Ω.F s a ∨ H a = none
  kp : ∀ a, Ω.F s a → H2 a ≠ none
  out : ∀ a, Ω.F s2 a → G2 a = none
structure FrSW (s : τ) (σ : St) (ρ : Env) (G H : Hp) (s2 : τ) (σ2 : St) (ρ2 : Env) (G2 H2 : Hp) : Prop where
  g : Ex G G2
  h : ∀ a o, H a = some o → ¬ Own σ ρ a → ¬ Ω.F s a → H2 a = some o
  nw : ∀ a, H a ≠ none → G a = none → ¬ Own σ ρ a → G2 a = none
  ow : ∀ a, Own σ2 ρ2 a → Own σ ρ a ∨ H a = none
  ob : ObK σ ρ σ2 ρ2
  fp : ∀ a, Ω.F s2 a → Ω.F s a ∨ H a = none ∨ Own σ ρ a
  kp : ∀ a, Ω.F s a → H2 a ≠ none
structure FrRW (s : τ) (σ : St) (ρ : Env) (G H : Hp) (s2 : τ) (G2 H2 : Hp) : Prop where
  g : Ex G G2
  gh : Ex G2 H2
  h : ∀ a o, H a = some o → ¬ Own σ ρ a → ¬ Ω.F s a → H2 a = some o
  nw : ∀ a, H a ≠ none → G a = none → ¬ Own σ ρ a → G2 a = none
  i : Ω.I s2 H2
  fp : ∀ a, Ω.F s2 a → Ω.F s a ∨ H a = none ∨ Own σ ρ a
  kp : ∀ a, Ω.F s a → H2 a ≠ none
  out : ∀ a, Ω.F s2 a → G2 a = none
end
section
variable {τ : Type} {Ω : Om τ} {s s2 s3 : τ} {G H G2 H2 G3 H3 : Hp} {σ σ2 σ3 : St} {ρ ρ2 ρ3 : Env}
theorem EnvW.no (x : EnvW Ω s G H σ ρ) {a : Addr} (h : Own σ ρ a) : ¬ Ω.F s a := fun z => x.o a z h
theorem own_some (x : EnvOk G H σ ρ) {a : Addr} (h : Own σ ρ a) : H a ≠ none := fun n => own_free x n h
theorem FrW.of (x : EnvW Ω s G H σ ρ) (f : Fr G H G2 H2) : FrW Ω s G H s G2 H2 :=
  ⟨f.g, f.gh, fun a o h _ => f.h a o h, f.nw, Ω.ext s H H2 x.i fun a o _ h => f.h a o h, fun a z => .inl z, fun a z n => (by
    cases e : H a with
    | none => exact Ω.has s H a x.i z e
    | some o =>
      rw [f.h a o e] at n
      cases n), fun a z => f.nw a (Ω.has s H a x.i z) (x.g a z)⟩
theorem FrW.refl (x : EnvW Ω s G H σ ρ) : FrW Ω s G H s G H := .of x (.refl x.x.gh)
theorem FrW.trans (a : FrW Ω s G H s2 G2 H2) (b : FrW Ω s2 G2 H2 s3 G3 H3) : FrW Ω s G H s3 G3 H3 := by
  have nf : ∀ c, H c ≠ none → ¬ Ω.F s c → ¬ Ω.F s2 c := fun c h n z => (a.fp c z).elim n h
  have kk : ∀ c, H c ≠ none → H2 c ≠ none := fun c h => by
    by_cases z : Ω.F s c
    · exact a.kp c z
    · cases e : H c with
      | none => exact absurd e h
      | some o => rw [a.h c o e z]; exact fun z => nomatch z
  refine ⟨a.g.trans b.g, b.gh, fun c o h n => b.h c o (a.h c o h n) (nf c (by rw [h]; exact fun z => nomatch z) n), fun c h1 h2 => b.nw c (kk c h1) (a.nw c h1 h2), b.i, fun c z => ?_, fun c z => ?_, b.out⟩
  · rcases b.fp c z with q | q
    · exact a.fp c q
    · cases e : H c with
      | none => exact .inr rfl
      | some o => exact absurd q (kk c (by rw [e]; exact fun z => nomatch z))
  · have h2 := a.kp c z
    by_cases q : Ω.F s2 c
    · exact b.kp c q
    · cases e : H2 c with
      | none => exact absurd e h2
      | some o => rw [b.h c o e q]; exact fun z => nomatch z
theorem EnvW.mono (x : EnvW Ω s G H σ ρ) (f : FrW Ω s G H s2 G2 H2) : EnvW Ω s2 G2 H2 σ ρ := by
  refine ⟨⟨f.gh, x.x.len, fun i d h => ?_, fun i d h => ?_, x.x.inj⟩, f.i, f.out, fun a z w => ?_⟩
  · obtain ⟨v, h1, h2⟩ := x.x.pu i d h
    exact ⟨v, h1, h2.mono f.g⟩
  · obtain ⟨p, o, h1, h2, h3, h4⟩ := x.x.ow i d h
    exact ⟨p, o, h1, f.nw p (by rw [h3]; exact fun z => nomatch z) h2, f.h p o h3 (x.no ⟨i, d, h, h1⟩), h4.mono f.g⟩
  · rcases f.fp a z with q | q
    · exact x.o a q w
    · exact own_free x.x q w
theorem FrSW.kk (a : FrSW Ω s σ ρ G H s2 σ2 ρ2 G2 H2) (x : EnvW Ω s G H σ ρ) (x2 : EnvW Ω s2 G2 H2 σ2 ρ2) {c : Addr} (h : H c ≠ none) (n : ¬ Own σ ρ c) : H2 c ≠ none := by
  by_cases z : Ω.F s c
  · exact a.kp c z
  · cases e : H c with
    | none => exact absurd e h
    | some o => rw [a.h c o e n z]; exact fun z => nomatch z
theorem FrSW.refl (x : EnvW Ω s G H σ ρ) : FrSW Ω s σ ρ G H s σ ρ G H := ⟨Ex.refl _, fun a o h _ _ => h, fun a _ h _ => h, fun a z => .inl z, .refl, fun a z => .inl z, fun a z => Ω.has s H a x.i z⟩
theorem FrSW.nf (a : FrSW Ω s σ ρ G H s2 σ2 ρ2 G2 H2) {c : Addr} (h : H c ≠ none) (n : ¬ Ω.F s c) (m : ¬ Own σ ρ c) : ¬ Ω.F s2 c := fun z => by
  rcases a.fp c z with q | q | q
  · exact n q
  · exact h q
  · exact m q
theorem FrSW.no (a : FrSW Ω s σ ρ G H s2 σ2 ρ2 G2 H2) {c : Addr} (h : H c ≠ none) (n : ¬ Own σ ρ c) : ¬ Own σ2 ρ2 c := fun z => (a.ow c z).elim n h
theorem FrSW.fp2 (x : EnvW Ω s G H σ ρ) (x2 : EnvW Ω s2 G2 H2 σ2 ρ2) (a : FrSW Ω s σ ρ G H s2 σ2 ρ2 G2 H2) {F3 : Addr → Prop} (b : ∀ c, F3 c → Ω.F s2 c ∨ H2 c = none ∨ Own σ2 ρ2 c) : ∀ c, F3 c → Ω.F s c ∨ H c = none ∨ Own σ ρ c := fun c z => by
  by_cases w : Own σ ρ c
  · exact .inr (.inr w)
  · rcases b c z with q | q | q
    · exact a.fp c q
    · cases e : H c with
      | none => exact .inr (.inl rfl)
      | some o => exact absurd q (a.kk x x2 (by rw [e]; exact fun z => nomatch z) w)
    · rcases a.ow c q with r | r
      · exact .inr (.inr r)
      · exact .inr (.inl r)
theorem FrSW.kp2 (x : EnvW Ω s G H σ ρ) (a : FrSW Ω s σ ρ G H s2 σ2 ρ2 G2 H2) (bh : ∀ c o, H2 c = some o → ¬ Own σ2 ρ2 c → ¬ Ω.F s2 c → H3 c = some o) (bk : ∀ c, Ω.F s2 c → H3 c ≠ none) : ∀ c, Ω.F s c → H3 c ≠ none := fun c z => by
  have h2 := a.kp c z
  by_cases q : Ω.F s2 c
  · exact bk c q
  · by_cases w : Own σ2 ρ2 c
    · rcases a.ow c w with r | r
      · exact absurd r (x.o c z)
      · exact absurd r (Ω.has s H c x.i z)
    · cases e : H2 c with
      | none => exact absurd e h2
      | some o => rw [bh c o e w q]; exact fun z => nomatch z
theorem FrSW.trans (x : EnvW Ω s G H σ ρ) (x2 : EnvW Ω s2 G2 H2 σ2 ρ2) (a : FrSW Ω s σ ρ G H s2 σ2 ρ2 G2 H2) (b : FrSW Ω s2 σ2 ρ2 G2 H2 s3 σ3 ρ3 G3 H3) : FrSW Ω s σ ρ G H s3 σ3 ρ3 G3 H3 := by
  have ne : ∀ {c o}, H c = some o → H c ≠ none := fun {c o} h => by rw [h]; exact fun z => nomatch z
  refine ⟨a.g.trans b.g, fun c o h n1 n2 => b.h c o (a.h c o h n1 n2) (a.no (ne h) n1) (a.nf (ne h) n2 n1), fun c h1 h2 n => b.nw c (a.kk x x2 h1 n) (a.nw c h1 h2 n) (a.no h1 n), fun c z => ?_, a.ob.trans b.ob, a.fp2 x x2 b.fp, a.kp2 x b.h b.kp⟩
  rcases b.ow c z with q | q
  · exact a.ow c q
  · by_cases w : Own σ ρ c
    · exact .inl w
    · cases e : H c with
      | none => exact .inr rfl
      | some o => exact absurd q (a.kk x x2 (ne e) w)
theorem FrSW.transR (x : EnvW Ω s G H σ ρ) (x2 : EnvW Ω s2 G2 H2 σ2 ρ2) (a : FrSW Ω s σ ρ G H s2 σ2 ρ2 G2 H2) (b : FrRW Ω s2 σ2 ρ2 G2 H2 s3 G3 H3) : FrRW Ω s σ ρ G H s3 G3 H3 := by
  have ne : ∀ {c o}, H c = some o → H c ≠ none := fun {c o} h => by rw [h]; exact fun z => nomatch z
  exact ⟨a.g.trans b.g, b.gh, fun c o h n1 n2 => b.h c o (a.h c o h n1 n2) (a.no (ne h) n1) (a.nf (ne h) n2 n1), fun c h1 h2 n => b.nw c (a.kk x x2 h1 n) (a.nw c h1 h2 n) (a.no h1 n), b.i, a.fp2 x x2 b.fp, a.kp2 x b.h b.kp, b.out⟩
theorem FrSW.of (x : EnvW Ω s G H σ ρ) (f : FrW Ω s G H s2 G2 H2) : FrSW Ω s σ ρ G H s2 σ ρ G2 H2 := ⟨f.g, fun a o h _ n => f.h a o h n, fun a h1 h2 _ => f.nw a h1 h2, fun a z => .inl z, .refl, fun a z => (f.fp a z).elim .inl fun q => .inr (.inl q), f.kp⟩
theorem FrRW.of (f : FrW Ω s G H s2 G2 H2) : FrRW Ω s σ ρ G H s2 G2 H2 := ⟨f.g, f.gh, fun a o h _ n => f.h a o h n, fun a h1 h2 _ => f.nw a h1 h2, f.i, fun a z => (f.fp a z).elim .inl fun q => .inr (.inl q), f.kp, f.out⟩
/-- a statement of trees leaves what stands beside them -/
theorem FrSW.lift (x : EnvW Ω s G H σ ρ) (x2 : EnvOk G2 H2 σ2 ρ2) (f : FrS σ ρ G H σ2 ρ2 G2 H2) : FrSW Ω s σ ρ G H s σ2 ρ2 G2 H2 ∧ EnvW Ω s G2 H2 σ2 ρ2 := by
  have hh : ∀ a o, Ω.F s a → H a = some o → H2 a = some o := fun a o z h => f.h a o h (x.o a z)
  refine ⟨⟨f.g, fun a o h n _ => f.h a o h n, f.nw, f.ow, f.ob, fun a z => .inl z, fun a z => ?_⟩, ⟨x2, Ω.ext s H H2 x.i hh, fun a z => f.nw a (Ω.has s H a x.i z) (x.g a z) (x.o a z), fun a z w => ?_⟩⟩
  · cases e : H a with
    | none => exact absurd e (Ω.has s H a x.i z)
    | some o => rw [hh a o z e]; exact fun z => nomatch z
  · rcases f.ow a w with q | q
    · exact x.o a z q
    · exact Ω.has s H a x.i z q
theorem FrRW.lift (x : EnvW Ω s G H σ ρ) (f : FrR σ ρ G H G2 H2) : FrRW Ω s σ ρ G H s G2 H2 := by
  have hh : ∀ a o, Ω.F s a → H a = some o → H2 a = some o := fun a o z h => f.h a o h (x.o a z)
  refine ⟨f.g, f.gh, fun a o h n _ => f.h a o h n, f.nw, Ω.ext s H H2 x.i hh, fun a z => .inl z, fun a z => ?_, fun a z => f.nw a (Ω.has s H a x.i z) (x.g a z) (x.o a z)⟩
  cases e : H a with
  | none => exact absurd e (Ω.has s H a x.i z)
  | some o => rw [hh a o z e]; exact fun z => nomatch z
theorem FrSW.sub (x : EnvW Ω s G H σ ρ) (hs : ∀ a, Own σ2 ρ2 a → Own σ ρ a) (ho : ObK σ ρ σ2 ρ2) : FrSW Ω s σ ρ G H s σ2 ρ2 G H := ⟨Ex.refl _, fun a o h _ _ => h, fun a _ h _ => h, fun a z => .inl (hs a z), ho, fun a z => .inl z, fun a z => Ω.has s H a x.i z⟩
end
/-! ### readings -/
section
variable {τ : Type} (Ω : Om τ)
/-- what may come of it: a promise about all that may come -/
abbrev WF (τ β : Type) := Env → τ → (β → τ → Prop) → Prop
def PuWS (t : TE) (φ : WF τ D) : Prop := ∀ ρ s R, φ ρ s R → ∀ (G H : Hp) (σ : St), EnvW Ω s G H σ ρ → ∀ Q : VK, (∀ d v s2 G2 H2, R d s2 → FrW Ω s G H s2 G2 H2 → Rep G2 d v → Q v H2) → t σ H Q
def TeWS (t : TT) (φ : WF τ Bool) : Prop := ∀ ρ s R, φ ρ s R → ∀ (G H : Hp) (σ : St), EnvW Ω s G H σ ρ → ∀ Q : Bool → Hp → Prop, (∀ b s2 G2 H2, R b s2 → FrW Ω s G H s2 G2 H2 → Q b H2) → t σ H Q
def ArWS (t : TA) (φ : WF τ (List D)) : Prop := ∀ ρ s R, φ ρ s R → ∀ (G H : Hp) (σ : St), EnvW Ω s G H σ ρ → ∀ Q : List V → Hp → Prop, (∀ ds vs s2 G2 H2, R ds s2 → FrW Ω s G H s2 G2 H2 → Reps G2 ds vs → Q vs H2) → t σ H Q
/-- a new thing of its own: its root may be written to -/
def OwWS (t : TE) (φ : WF τ D) : Prop := ∀ ρ s R, φ ρ s R → ∀ (G H : Hp) (σ : St), EnvW Ω s G H σ ρ → ∀ Q : VK, (∀ d p o s2 G2 H2, R d s2 → FrW Ω s G H s2 G2 H2 → H p = none → G2 p = none → ¬ Ω.F s2 p → H2 p = some o → Top G2 d o → Q (.ref p) H2) → t σ H Q
structure PuW (X : Cx) (e : Expr) (t : TE) (φ : WF τ D) : Prop where
  pe : PE X e t
  ev : PuWS Ω t φ
structure OwW (X : Cx) (e : Expr) (t : TE) (φ : WF τ D) : Prop where
  pe : PE X e t
  ev : OwWS Ω t φ
structure TeW (X : Cx) (e : Expr) (t : TT) (φ : WF τ Bool) : Prop where
  pt : PT X e t
  ev : TeWS Ω t φ
structure TwW (X : Cx) (e : Expr) (t : TT) (φ : WF τ Bool) : Prop where
  pw : PW X e t
  ev : TeWS Ω t φ
structure ArW (X : Cx) (es : List Expr) (t : TA) (φ : WF τ (List D)) : Prop where
  pa : PA X es t
  ev : ArWS Ω t φ
/-- outcomes of statements -/
inductive Ou where
  | nx (ρ : Env)
  | rt (d : D)
  | bk (ρ : Env)
  | ct (ρ : Env)
  | rz (ρ : Env) (c : Value) (ns : List Str) (ds : List D)
def EndW (De : Ends) (W : WX) (s : τ) (σ : St) (ρ : Env) (G H : Hp) : Ou → τ → Prop
  | .nx ρ2, s2 => ∀ σ2 G2 H2, EnvW Ω s2 G2 H2 σ2 ρ2 → FrSW Ω s σ ρ G H s2 σ2 ρ2 G2 H2 → De.nx σ2 H2
  | .bk ρ2, s2 => ∀ σ2 G2 H2, EnvW Ω s2 G2 H2 σ2 ρ2 → FrSW Ω s σ ρ G H s2 σ2 ρ2 G2 H2 → De.bk σ2 H2
  | .ct ρ2, s2 => ∀ σ2 G2 H2, EnvW Ω s2 G2 H2 σ2 ρ2 → FrSW Ω s σ ρ G H s2 σ2 ρ2 G2 H2 → De.ct σ2 H2
  | .rt d, s2 => ∀ v G2 H2, FrRW Ω s σ ρ G H s2 G2 H2 → Rep G2 d v → De.rt v H2
  | .rz ρ2 c ns ds, s2 => ∀ σ2 G2 H2 xo, EnvW Ω s2 G2 H2 σ2 ρ2 → FrSW Ω s σ ρ G H s2 σ2 ρ2 G2 H2 → ((xo = none ∧ ns = []) ∨ ∃ dx us, xo = some dx ∧ H2 dx = some (.xd (ns.zip us)) ∧ ns.length = ds.length ∧ Reps G2 ds us) → W c xo σ2 H2
def StWS (W : WX) (t : TS) (Φ : WF τ Ou) : Prop := ∀ ρ s R, Φ ρ s R → ∀ (G H : Hp) (σ : St), EnvW Ω s G H σ ρ → ∀ De : Ends, (∀ o s2, R o s2 → EndW Ω De W s σ ρ G H o s2) → t De σ H
structure StW (W : WX) (X : Cx) (st : Stmt) (t : TS) (Φ : WF τ Ou) : Prop where
  ps : PS X st t
  ev : StWS Ω W t Φ
structure SsW (W : WX) (X : Cx) (st : List Stmt) (t : TS) (Φ : WF τ Ou) : Prop where
  ps : PSs X st t
  ev : StWS Ω W t Φ
def ItWS (wi : TI) (ψ : WF τ (List D)) : Prop := ∀ ρ s R, ψ ρ s R → ∀ (G H : Hp) (σ : St), EnvW Ω s G H σ ρ → ∀ Rr : It → Hp → Prop,
  (∀ ds s1 J G2 H2 (Γ : Hp → Prop) Y, R ds s1 → FrW Ω s G H s1 G2 H2 → Walk J ds.length Γ Y → (∀ H', Ex G2 H' → Γ H') →
    (∀ i H' x H'' G', i < ds.length → Ex G2 G' → Ex G' H' → Y i H' x H'' → ∃ d G'', ds[i]? = some d ∧ Fr G' H' G'' H'' ∧ Rep G'' d x) → Rr J H2) → wi σ H Rr
structure ItW (X : Cx) (tg e : Expr) (wi : TI) (ψ : WF τ (List D)) : Prop where
  pi : PI X tg e wi
  ev : ItWS Ω wi ψ
end
/-! ### what is one way only -/
section
variable {τ β : Type} {Ω : Om τ} {X : Cx} {W : WX} {e tg : Expr} {es : List Expr} {t : TE} {tt : TT} {tr : TA} {ts : TS} {wi : TI} {φ : Env → Option D} {χ : Env → Option Bool} {ψ : Env → Option (List D)} {Φ : Env → Option Out} {st : Stmt} {ss : List Stmt}
def lf (φ : Env → Option β) : WF τ β := fun ρ s R => ∃ d, φ ρ = some d ∧ R d s
def Out.w : Out → Ou
  | .nx ρ => .nx ρ
  | .rt d => .rt d
  | .bk ρ => .bk ρ
  | .ct ρ => .ct ρ
def lfS (Φ : Env → Option Out) : WF τ Ou := fun ρ s R => ∃ o, Φ ρ = some o ∧ R o.w s
theorem PuD.w (h : PuD X e t φ) : PuW Ω X e t (lf φ) := ⟨h.pe, fun ρ s R ⟨d, e1, r⟩ G H σ x Q k => h.ev ρ d e1 G H σ x.x Q fun v G2 H2 f q => k d v s G2 H2 r (.of x f) q⟩
theorem TeD.w (h : TeD X e tt χ) : TeW Ω X e tt (lf χ) := ⟨h.pt, fun ρ s R ⟨d, e1, r⟩ G H σ x Q k => h.ev ρ d e1 G H σ x.x Q fun G2 H2 f => k d s G2 H2 r (.of x f)⟩
theorem ArD.w (h : ArD X es tr ψ) : ArW Ω X es tr (lf ψ) := ⟨h.pa, fun ρ s R ⟨d, e1, r⟩ G H σ x Q k => h.ev ρ d e1 G H σ x.x Q fun v G2 H2 f q => k d v s G2 H2 r (.of x f) q⟩
theorem OwD.w (h : OwD X e t ψ) : OwW Ω X e t (lf fun ρ => (ψ ρ).map (D.seq true)) := ⟨h.pe, fun ρ s R ⟨d, e1, r⟩ G H σ x Q k => by
  obtain ⟨ds, e2, rfl⟩ := Option.map_eq_some_iff.mp e1
  refine h.ev ρ ds e2 G H σ x.x Q fun p us G2 H2 f n1 n2 h2 l q => k _ p _ s G2 H2 r (.of x f) n1 n2 (fun z => Ω.has s H p x.i z n1) h2 ⟨us, rfl, l, q⟩⟩
theorem ItD.w (h : ItD X tg e wi ψ) : ItW Ω X tg e wi (lf ψ) := ⟨h.pi, fun ρ s R ⟨d, e1, r⟩ G H σ x Q k => h.ev ρ d e1 G H σ x.x Q fun J G2 H2 Γ Y f wk hΓ hY => k d s J G2 H2 Γ Y r (.of x f) wk hΓ hY⟩
theorem end_lift {De : Ends} {s : τ} {σ : St} {ρ : Env} {G H : Hp} (x : EnvW Ω s G H σ ρ) {o : Out} (k : EndW Ω De W s σ ρ G H o.w s) : EndOk De σ ρ G H o := by
  cases o with
  | nx ρ2 => exact fun σ2 G2 H2 x2 f => let ⟨a, b⟩ := FrSW.lift x x2 f; k σ2 G2 H2 b a
  | bk ρ2 => exact fun σ2 G2 H2 x2 f => let ⟨a, b⟩ := FrSW.lift x x2 f; k σ2 G2 H2 b a
  | ct ρ2 => exact fun σ2 G2 H2 x2 f => let ⟨a, b⟩ := FrSW.lift x x2 f; k σ2 G2 H2 b a
  | rt d => exact fun v G2 H2 f r => k v G2 H2 (FrRW.lift x f) r
theorem StD.w (h : StD X st ts Φ) : StW Ω W X st ts (lfS Φ) := ⟨h.ps, fun ρ s R ⟨o, e1, r⟩ G H σ x De k => h.ev ρ o e1 G H σ x.x De (end_lift x (k _ s r))⟩
theorem SsD.w (h : SsD X ss ts Φ) : SsW Ω W X ss ts (lfS Φ) := ⟨h.ps, fun ρ s R ⟨o, e1, r⟩ G H σ x De k => h.ev ρ o e1 G H σ x.x De (end_lift x (k _ s r))⟩
end
end L2.Tr

/-! Trees beside something that changes: expressions. -/
namespace L2.Tr
open PySem PySem.Spec PyProof.Rows
section
variable {τ β : Type} {Ω : Om τ} {X : Cx} {W : WX} {e a b c : Expr} {es rest : List Expr} {t ta tb : TE} {tt tu : TT} {tr : TA} {φ φa φb : WF τ D} {χ ξ : WF τ Bool} {ψ : WF τ (List D)} {pos : Pos}
def b2W (op : D → D → Option β) (φa φb : WF τ D) : WF τ β := fun ρ s R => φa ρ s fun x s1 => φb ρ s1 fun y s2 => ∃ z, op x y = some z ∧ R z s2
theorem op_evW {r : R2} {op : D → D → Option D} (hd : R2D r op) (ha : PuWS Ω ta φa) (hb : PuWS Ω tb φb) : PuWS Ω (tOp r ta tb) (b2W op φa φb) := fun ρ s R h G H σ x Q k => by
  refine ha ρ s _ h G H σ x _ fun d1 v1 s1 G1 H1 h1 f1 r1 => ?_
  refine hb ρ s1 _ h1 G1 H1 σ (x.mono f1) _ fun d2 v2 s2 G2 H2 h2 f2 r2 => ?_
  obtain ⟨z, e, h3⟩ := h2
  have x2 := (x.mono f1).mono f2
  exact hd d1 d2 z e G2 H2 v1 v2 f2.gh (.inl (r1.mono f2.g)) (.inl r2) Q fun v G3 H3 f3 r3 => k z v s2 G3 H3 h3 (f1.trans (f2.trans (.of x2 f3))) r3
theorem pw_op {op : Operator} {r : R2} {o : D → D → Option D} (ho : OpR X (binaryOp op) r) (hd : R2D r o) (ha : PuW Ω X a ta φa) (hb : PuW Ω X b tb φb) : PuW Ω X (.BinOp a op b pos) (tOp r ta tb) (b2W o φa φb) := ⟨pe_op ho ha.pe hb.pe, op_evW hd ha.ev hb.ev⟩
theorem pw_cmp {op : CmpOp} {r : R2} {o : D → D → Option D} (ho : OpR X (compareOp op) r) (hd : R2D r o) (hm : behindInMarks op b = false) (ha : PuW Ω X a ta φa) (hb : PuW Ω X b tb φb) : PuW Ω X (.Compare a [op] [b] pos) (tOp r ta tb) (b2W o φa φb) := ⟨pe_cmpR ho ha.pe hb.pe hm, op_evW hd ha.ev hb.ev⟩
theorem pw_ix (ha : PuW Ω X a ta φa) (hb : PuW Ω X b tb φb) (hs : PlainIx b) : PuW Ω X (.Subscript a b pos) (tOp (rIx X.K) ta tb) (b2W ixD φa φb) := ⟨pe_ix ix_seq ha.pe hb.pe hs, op_evW r2_ix ha.ev hb.ev⟩
def asW (φ : WF τ D) : WF τ Bool := fun ρ s R => φ ρ s fun d s1 => ∃ b, asB d = some b ∧ R b s1
theorem te_testW (h : PuWS Ω t φ) : TeWS Ω (tTest t) (asW φ) := fun ρ s R hh G H σ x Q k => by
  refine h ρ s _ hh G H σ x _ fun d v s1 G1 H1 ⟨b, e, h1⟩ f1 r1 => ?_
  unfold asB at e
  split at e
  · cases e
    obtain ⟨rfl, _⟩ := r1.un_lf
    exact ⟨_, rfl, k _ s1 G1 H1 h1 f1⟩
  · cases e
theorem tw_cmp {op : CmpOp} {r : R2} {o : D → D → Option D} (ho : OpR X (compareOp op) r) (hd : R2D r o) (hm : behindInMarks op b = false) (ha : PuW Ω X a ta φa) (hb : PuW Ω X b tb φb) : TeW Ω X (.Compare a [op] [b] pos) (tTest (tOp r ta tb)) (asW (b2W o φa φb)) := ⟨pt_cmpR ho ha.pe hb.pe hm, te_testW (op_evW hd ha.ev hb.ev)⟩
def truW (φ : WF τ D) : WF τ Bool := fun ρ s R => φ ρ s fun d s1 => ∃ b, truD d = some b ∧ R b s1
theorem tw_tru (ha : PuW Ω X a ta φa) (he : ∀ whole, isTrue a X.env whole = (do let v ← whole; standAt a.pos; holding [v] (truthy v))) : TeW Ω X a (fun σ H Q => ta σ H fun x H' => ∃ k, TruV X.K x H' k ∧ Q k H') (truW φa) := ⟨pt_truth ha.pe he, fun ρ s R hh G H σ x Q k => by
  exact ha.ev ρ s _ hh G H σ x _ fun d v s1 G1 H1 ⟨b, e, h1⟩ f1 r1 => ⟨b, tru_of e f1.gh (.inl r1), k b s1 G1 H1 h1 f1⟩⟩
def andW (χ ξ : WF τ Bool) : WF τ Bool := fun ρ s R => χ ρ s fun k s1 => if k = true then ξ ρ s1 R else R false s1
def orW (χ ξ : WF τ Bool) : WF τ Bool := fun ρ s R => χ ρ s fun k s1 => if k = true then R true s1 else ξ ρ s1 R
def notW (χ : WF τ Bool) : WF τ Bool := fun ρ s R => χ ρ s fun k s1 => R (!k) s1
theorem TwW.te (h : TwW Ω X a tt χ) : TeW Ω X a tt χ := ⟨h.pw.pt, h.ev⟩
theorem tww_and1 (h : TeW Ω X a tt χ) : TwW Ω X (.BoolOp .And [a] pos) tt χ := ⟨pw_and1 h.pt, h.ev⟩
theorem tww_or1 (h : TeW Ω X a tt χ) : TwW Ω X (.BoolOp .Or [a] pos) tt χ := ⟨pw_or1 h.pt, h.ev⟩
theorem tww_and (h : TeW Ω X a tt χ) (h2 : TwW Ω X (.BoolOp .And (b :: rest) pos) tu ξ) : TwW Ω X (.BoolOp .And (a :: b :: rest) pos) (tAnd tt tu) (andW χ ξ) := ⟨pw_and h.pt h2.pw, fun ρ s R hh G H σ x Q k => by
  refine h.ev ρ s _ hh G H σ x _ fun b s1 G1 H1 h1 f1 => ?_
  cases b with
  | true => exact h2.ev ρ s1 R h1 G1 H1 σ (x.mono f1) Q fun b s2 G2 H2 h2 f2 => k b s2 G2 H2 h2 (f1.trans f2)
  | false => exact k _ s1 G1 H1 h1 f1⟩
theorem tww_or (h : TeW Ω X a tt χ) (h2 : TwW Ω X (.BoolOp .Or (b :: rest) pos) tu ξ) : TwW Ω X (.BoolOp .Or (a :: b :: rest) pos) (tOr tt tu) (orW χ ξ) := ⟨pw_or h.pt h2.pw, fun ρ s R hh G H σ x Q k => by
  refine h.ev ρ s _ hh G H σ x _ fun b s1 G1 H1 h1 f1 => ?_
  cases b with
  | false => exact h2.ev ρ s1 R h1 G1 H1 σ (x.mono f1) Q fun b s2 G2 H2 h2 f2 => k b s2 G2 H2 h2 (f1.trans f2)
  | true => exact k _ s1 G1 H1 h1 f1⟩
theorem tew_not (h : TeW Ω X a tt χ) : TeW Ω X (.UnaryOp .Not a pos) (tNot tt) (notW χ) := ⟨pt_not h.pt, fun ρ s R hh G H σ x Q k => by
  exact h.ev ρ s _ hh G H σ x _ fun b s1 G1 H1 h1 f1 => k _ s1 G1 H1 h1 f1⟩
def ifW {β : Type} (χ : WF τ Bool) (φ ψ : WF τ β) : WF τ β := fun ρ s R => χ ρ s fun k s1 => if k = true then φ ρ s1 R else ψ ρ s1 R
theorem pw_if (h : TeW Ω X c tt χ) (ha : PuW Ω X a ta φa) (hb : PuW Ω X b tb φb) : PuW Ω X (.IfExp c a b pos) (tIf tt ta tb) (ifW χ φa φb) := ⟨pe_ifExp h.pt ha.pe hb.pe, fun ρ s R hh G H σ x Q k => by
  refine h.ev ρ s _ hh G H σ x _ fun b s1 G1 H1 h1 f1 => ?_
  cases b with
  | true => exact ha.ev ρ s1 R h1 G1 H1 σ (x.mono f1) Q fun d v s2 G2 H2 h2 f2 r => k d v s2 G2 H2 h2 (f1.trans f2) r
  | false => exact hb.ev ρ s1 R h1 G1 H1 σ (x.mono f1) Q fun d v s2 G2 H2 h2 f2 r => k d v s2 G2 H2 h2 (f1.trans f2) r⟩
/-! arguments, displays -/
def nilW : WF τ (List D) := fun _ s R => R [] s
def consW (φ : WF τ D) (ψ : WF τ (List D)) : WF τ (List D) := fun ρ s R => φ ρ s fun x s1 => ψ ρ s1 fun xs s2 => R (x :: xs) s2
theorem aw_nil : ArW Ω X [] tNil nilW := ⟨pa_nil, fun ρ s R h G H σ x Q k => k [] [] s G H h (.refl x) .nil⟩
theorem aw_cons (h : PuW Ω X e t φ) (r : ArW Ω X es tr ψ) (hs : starEach (e :: es) X.env = (false, eval e X.env) :: starEach es X.env := by rfl) : ArW Ω X (e :: es) (tCons t tr) (consW φ ψ) := ⟨pa_cons h.pe r.pa hs, fun ρ s R hh G H σ x Q k => by
  refine h.ev ρ s _ hh G H σ x _ fun d v s1 G1 H1 h1 f1 r1 => ?_
  exact r.ev ρ s1 _ h1 G1 H1 σ (x.mono f1) _ fun ds vs s2 G2 H2 h2 f2 r2 => k _ _ s2 G2 H2 h2 (f1.trans f2) (.cons (r1.mono f2.g) r2)⟩
def ap1W {β : Type} (op : List D → Option β) (ψ : WF τ (List D)) : WF τ β := fun ρ s R => ψ ρ s fun ds s1 => ∃ z, op ds = some z ∧ R z s1
theorem reps_views {G H : Hp} : ∀ {ds : List D} {vs : List V}, Reps G ds vs → Views G H ds vs
  | [], vs, h => h
  | d :: ds, vs, h => by
    obtain ⟨u, r, e, h1, h2⟩ := h.un
    exact ⟨u, r, e, .inl h1, reps_views h2⟩
theorem cb_evW {r : List V → Hp → VK → Prop} {op : List D → Option D} (hd : R1D r op) (h : ArWS Ω tr ψ) : PuWS Ω (tCB r tr) (ap1W op ψ) := fun ρ s R hh G H σ x Q k => by
  refine h ρ s _ hh G H σ x _ fun ds vs s1 G1 H1 ⟨z, e, h1⟩ f1 r1 => ?_
  exact hd ds z e G1 H1 vs f1.gh (reps_views r1) Q fun v G2 H2 f2 r2 => k z v s1 G2 H2 h1 (f1.trans (.of (x.mono f1) f2)) r2
theorem pw_cb {x id : _} {p : Pos} {r : List V → Hp → VK → Prop} {op : List D → Option D} (hc : CallR X (.builtin id) r) (hd : R1D r op) (hg : Gl X x) (hm : X.mg x = none) (hv : bootBuiltins x = some (.builtin id)) (ha : ArW Ω X (e :: es) tr ψ) (hn : x ≠ "__name__" := by decide) (hdb : (x == ("__debug__" : Str)) = false := by decide)
    (he : starEach (e :: es) X.env = (false, eval e X.env) :: starEach es X.env := by rfl) (hpl : (backTo pos (starEach es X.env)).any (·.1) = false := by rfl) : PuW Ω X (.Call (.Name x p) (e :: es) [] pos) (tCB r tr) (ap1W op ψ) := ⟨pe_callB hc hg hm hv ha.pa hn hdb he hpl, cb_evW hd ha.ev⟩
theorem pw_cty {x T : _} {p : Pos} {r : List V → Hp → VK → Prop} {op : List D → Option D} (hc : CallR X (.type T) r) (hd : R1D r op) (hg : Gl X x) (hm : X.mg x = none) (hv : bootBuiltins x = some (.type T)) (ha : ArW Ω X (e :: es) tr ψ) (hn : x ≠ "__name__" := by decide) (hdb : (x == ("__debug__" : Str)) = false := by decide)
    (he : starEach (e :: es) X.env = (false, eval e X.env) :: starEach es X.env := by rfl) (hpl : (backTo pos (starEach es X.env)).any (·.1) = false := by rfl) : PuW Ω X (.Call (.Name x p) (e :: es) [] pos) (tCB r tr) (ap1W op ψ) := ⟨pe_callTy hc hg hm hv ha.pa hn hdb he hpl, cb_evW hd ha.ev⟩
def tupW (ψ : WF τ (List D)) : WF τ D := fun ρ s R => ψ ρ s fun ds s1 => ds.length ≤ Lim ∧ R (.seq false ds) s1
def lstW (ψ : WF τ (List D)) : WF τ D := fun ρ s R => ψ ρ s fun ds s1 => ds.length ≤ Lim ∧ R (.seq true ds) s1
theorem pw_tup {x1 : _} (h : ArW Ω X es tr ψ) : PuW Ω X (.Tuple es x1 pos) (tTup tr) (tupW ψ) := ⟨pe_tup h.pa, fun ρ s R hh G H σ x Q k => by
  refine h.ev ρ s _ hh G H σ x _ fun ds vs s1 G1 H1 ⟨hl, h1⟩ f1 r1 => ⟨by rw [r1.len]; exact lim_line (by omega), fun p np => ?_⟩
  exact k _ _ s1 _ _ h1 (f1.trans (.of (x.mono f1) (.new f1.gh np))) (.sq (b := false) upd_same hl (r1.mono (Ex.new (f1.gh.back np))))⟩
theorem oww_lst (h : ArW Ω X es tr ψ) : OwW Ω X (.List es pos) (tLst tr) (lstW ψ) := ⟨pe_lst h.pa, fun ρ s R hh G H σ x Q k => by
  refine h.ev ρ s _ hh G H σ x _ fun ds vs s1 G1 H1 ⟨hl, h1⟩ f1 r1 => ⟨by rw [r1.len]; exact lim_line (by omega), fun p np => ?_⟩
  have x1 := x.mono f1
  refine k _ p _ s1 G1 _ h1 (f1.trans (.of x1 (.tmp f1.gh np))) ?_ (f1.gh.back np) (fun z => Ω.has s1 H1 p x1.i z np) upd_same ⟨vs, rfl, hl, r1⟩
  cases e : H p with
  | none => rfl
  | some o =>
    by_cases z : Ω.F s p
    · exact absurd np (f1.kp p z)
    · rw [f1.h p o e z] at np; cases np⟩
/-- what is new behind was none ahead -/
theorem FrW.back {s s2 : τ} {G H G2 H2 : Hp} (f : FrW Ω s G H s2 G2 H2) {p : Addr} (n : H2 p = none) : H p = none := by
  cases e : H p with
  | none => rfl
  | some o =>
    by_cases z : Ω.F s p
    · exact absurd n (f.kp p z)
    · rw [f.h p o e z] at n; cases n
/-- an own thing is kept -/
theorem OwW.pu (h : OwW Ω X e t φ) : PuW Ω X e t φ := ⟨h.pe, fun ρ s R hh G H σ x Q k => by
  refine h.ev ρ s R hh G H σ x Q fun d p o s2 G2 H2 h2 f n1 n2 n3 hp r => ?_
  have g2 : Ex (upd G2 p o) H2 := fun a u z => by
    by_cases q : a = p
    · rw [q, upd_same] at z; rw [q]; cases z; exact hp
    · rw [upd_ne q] at z; exact f.gh _ _ z
  refine k d (.ref p) s2 (upd G2 p o) H2 h2 ⟨f.g.trans (Ex.new n2), g2, f.h, fun a h1 h2 => ?_, f.i, f.fp, f.kp, fun a z => ?_⟩ (r.rep (Ex.new n2) upd_same)
  · have : a ≠ p := fun z => h1 (z ▸ n1)
    rw [upd_ne this]
    exact f.nw a h1 h2
  · have : a ≠ p := fun w => n3 (w ▸ z)
    rw [upd_ne this]
    exact f.out a z⟩
/-- {} -/
theorem oww_dnew : OwW Ω X (.Dict [] [] pos) tDNewK (fun _ s R => R (.dct [] []) s) := ⟨pe_dnewK, fun ρ s R hh G H σ x Q k => fun p np => k _ p _ s G _ hh (.of x (.tmp x.x.gh np)) np (x.x.gh.back np) (fun z => Ω.has s H p x.i z np) upd_same ⟨[], rfl, rfl, by decide, .nil⟩⟩
/-- a built-in call that makes an own list -/
theorem oww_cty {x T : _} {p : Pos} {r : List V → Hp → VK → Prop} {op : List D → Option (List D)} (hc : CallR X (.type T) r) (hd : R1O r op) (hg : Gl X x) (hm : X.mg x = none) (hv : bootBuiltins x = some (.type T)) (ha : ArW Ω X (e :: es) tr ψ) (hn : x ≠ "__name__" := by decide) (hdb : (x == ("__debug__" : Str)) = false := by decide)
    (he : starEach (e :: es) X.env = (false, eval e X.env) :: starEach es X.env := by rfl) (hpl : (backTo pos (starEach es X.env)).any (·.1) = false := by rfl) : OwW Ω X (.Call (.Name x p) (e :: es) [] pos) (tCB r tr) (fun ρ s R => ap1W op ψ ρ s fun ds s1 => R (.seq true ds) s1) := ⟨pe_callTy hc hg hm hv ha.pa hn hdb he hpl, fun ρ s R hh G H σ x Q k => by
  refine ha.ev ρ s _ hh G H σ x _ fun ds vs s1 G1 H1 ⟨z, ee, h1⟩ f1 r1 => ?_
  have x1 := x.mono f1
  exact hd ds z ee G1 H1 vs f1.gh (reps_views r1) Q fun q us G2 H2 f2 n1 n2 hp l r2 => k _ q _ s1 G2 H2 h1 (f1.trans (.of x1 f2)) (f1.back n1) n2 (fun w => Ω.has s1 H1 q x1.i w n1) hp ⟨us, rfl, l, r2⟩⟩
/-! calls -/
/-- what a def promises beside Ω -/
def spW (Ω : Om τ) (f : List D → τ → (D → τ → Prop) → Prop) : Sp := fun vs H Q _ => ∃ (s : τ) (G : Hp) (ds : List D) (R : D → τ → Prop), Ex G H ∧ Ω.I s H ∧ (∀ a, Ω.F s a → G a = none) ∧ Reps G ds vs ∧ f ds s R ∧
  ∀ d v s2 G2 H2, R d s2 → FrW Ω s G H s2 G2 H2 → Rep G2 d v → Q v H2
/-- .. that hands back a thing of its own -/
def spWO (Ω : Om τ) (f : List D → τ → (D → τ → Prop) → Prop) : Sp := fun vs H Q _ => ∃ (s : τ) (G : Hp) (ds : List D) (R : D → τ → Prop), Ex G H ∧ Ω.I s H ∧ (∀ a, Ω.F s a → G a = none) ∧ Reps G ds vs ∧ f ds s R ∧
  ∀ d p o s2 G2 H2, R d s2 → FrW Ω s G H s2 G2 H2 → H p = none → G2 p = none → ¬ Ω.F s2 p → H2 p = some o → Top G2 d o → Q (.ref p) H2
structure FnE (P : Program) (w : World) (K : PySem.W.Frag) (mg : Str → Option Value) (base : Heap) (x : Str) (k : Nat) (sp : Sp) : Prop where
  ex : ∃ (a : Addr) (fd : FuncData) (ps : List Str), FnOk P w K mg base CX0 k a fd ps sp ∧ mg x = some (.ref a) ∧ PySem.W.keepIn K (.ref a) = true ∧ Binds K fd ps []
def callW (f : List D → τ → (D → τ → Prop) → Prop) (ψ : WF τ (List D)) : WF τ D := fun ρ s R => ψ ρ s fun ds s1 => f ds s1 R
theorem pw_call {x : Str} {k : Nat} {sp : Sp} {f : List D → τ → (D → τ → Prop) → Prop} {p : Pos} (h : FnE X.prog X.w X.K X.mg X.base x k sp) (sub : ∀ vs H Q, spW Ω f vs H Q E0 → sp vs H Q E0) (hr : Room k X.A) (hg : Gl X x) (ha : ArW Ω X (e :: es) tr ψ) (hdb : (x == ("__debug__" : Str)) = false := by decide)
    (he : starEach (e :: es) X.env = (false, eval e X.env) :: starEach es X.env := by rfl) (hpl : (backTo pos (starEach es X.env)).any (·.1) = false := by rfl) :
    PuW Ω X (.Call (.Name x p) (e :: es) [] pos) (tCall sp [] E0 tr) (callW f ψ) := by
  obtain ⟨a, fd, ps, F, h1, h2, h3⟩ := h.ex
  refine ⟨pe_call F hr hg h1 h2 h3 .nil pass0 ha.pa hdb he hpl, fun ρ s R hh G H σ x Q k => ?_⟩
  refine ha.ev ρ s _ hh G H σ x _ fun ds vs s1 G1 H1 h1 f1 r1 => ?_
  rw [List.append_nil]
  exact sub vs H1 Q ⟨s1, G1, ds, R, f1.gh, f1.i, f1.out, r1, h1, fun d v s2 G2 H2 q f2 r2 => k d v s2 G2 H2 q (f1.trans f2) r2⟩
theorem ow_call {x : Str} {k : Nat} {sp : Sp} {f : List D → τ → (D → τ → Prop) → Prop} {p : Pos} (h : FnE X.prog X.w X.K X.mg X.base x k sp) (sub : ∀ vs H Q, spWO Ω f vs H Q E0 → sp vs H Q E0) (hr : Room k X.A) (hg : Gl X x) (ha : ArW Ω X (e :: es) tr ψ) (hdb : (x == ("__debug__" : Str)) = false := by decide)
    (he : starEach (e :: es) X.env = (false, eval e X.env) :: starEach es X.env := by rfl) (hpl : (backTo pos (starEach es X.env)).any (·.1) = false := by rfl) :
    OwW Ω X (.Call (.Name x p) (e :: es) [] pos) (tCall sp [] E0 tr) (callW f ψ) := by
  obtain ⟨a, fd, ps, F, h1, h2, h3⟩ := h.ex
  refine ⟨pe_call F hr hg h1 h2 h3 .nil pass0 ha.pa hdb he hpl, fun ρ s R hh G H σ x Q k => ?_⟩
  refine ha.ev ρ s _ hh G H σ x _ fun ds vs s1 G1 H1 h1 f1 r1 => ?_
  rw [List.append_nil]
  exact sub vs H1 Q ⟨s1, G1, ds, R, f1.gh, f1.i, f1.out, r1, h1, fun d p o s2 G2 H2 q f2 n1 n2 n3 hp r2 => k d p o s2 G2 H2 q (f1.trans f2) (f1.back n1) n2 n3 hp r2⟩
/-- a def of trees alone, called beside Ω -/
theorem Fn.toE {P : Program} {w : World} {K : PySem.W.Frag} {mg : Str → Option Value} {base : Heap} {x : Str} {k n : Nat} {f : List D → Option D} (h : Fn P w K mg base x k n f) : FnE P w K mg base x k (spP f) := let ⟨a, fd, ps, F, h1, h2, h3⟩ := h.ex; ⟨a, fd, ps, F, h1, h2, h3⟩
/-- the promise of a def of trees, beside Ω -/
def detW (f : List D → Option D) : List D → τ → (D → τ → Prop) → Prop := fun ds s R => ∃ d, f ds = some d ∧ R d s
theorem subP {f : List D → Option D} : ∀ vs H Q, spW Ω (detW f) vs H Q E0 → spP f vs H Q E0 := fun vs H Q ⟨s, G, ds, R, g, i, o, r, ⟨d, e, h⟩, k⟩ =>
  ⟨G, ds, d, g, r, e, fun v G2 H2 f2 r2 => k d v s G2 H2 h ⟨f2.g, f2.gh, fun a o z _ => f2.h a o z, f2.nw, Ω.ext s H H2 i fun a o _ z => f2.h a o z, fun a z => .inl z, fun a z n => (by
    cases q : H a with
    | none => exact Ω.has s H a i z q
    | some u =>
      rw [f2.h a u q] at n
      cases n), fun a z => f2.nw a (Ω.has s H a i z) (o a z)⟩ r2⟩
end
end L2.Tr

/-! Trees beside something that changes: statements. -/
namespace L2.Tr
open PySem PySem.Spec PyProof.Rows
def isObj : D → Bool
  | .obj _ _ _ => true
  | _ => false
section
variable {τ : Type} {Ω : Om τ}
/-- v may stand in a slot as sl; H0: the heap ahead of its making -/
def HasSl (Ω : Om τ) (s : τ) (G H H0 : Hp) : Sl → V → Prop
  | .pu d, v => Rep G d v
  | .ow d, v => ∃ p o, v = .ref p ∧ H0 p = none ∧ G p = none ∧ ¬ Ω.F s p ∧ H p = some o ∧ Top G d o ∧ isObj d = false
  | .un, _ => True
theorem HasSl.mono {s s2 : τ} {G H H0 G2 H2 : Hp} (f : FrW Ω s G H s2 G2 H2) : ∀ {sl : Sl} {v : V}, HasSl Ω s G H H0 sl v → HasSl Ω s2 G2 H2 H0 sl v
  | .pu d, v, h => Rep.mono f.g h
  | .un, v, h => trivial
  | .ow d, v, ⟨p, o, h1, h2, h3, h4, h5, h6, h7⟩ => ⟨p, o, h1, h2, f.nw p (by rw [h5]; exact fun z => nomatch z) h3, fun z => (f.fp p z).elim h4 fun q => (by rw [q] at h5; cases h5), f.h p o h5 h4, h6.mono f.g, h7⟩
theorem store_ok {s : τ} {G H H0 : Hp} {σ : St} {ρ : Env} (x : EnvW Ω s G H σ ρ) (h0 : ∀ a, Own σ ρ a → H0 a ≠ none) {sl : Sl} {v : V} (hs : HasSl Ω s G H H0 sl v) (i : Nat) :
    EnvW Ω s G H (σ.set i (some v)) (ρ.set i sl) ∧ (∀ a, Own (σ.set i (some v)) (ρ.set i sl) a → Own σ ρ a ∨ H0 a = none) ∧ ObK σ ρ (σ.set i (some v)) (ρ.set i sl) := by
  have sub : ∀ {sl' : Sl}, (∀ d, sl' ≠ .ow d) → ∀ a, Own (σ.set i (some v)) (ρ.set i sl') a → Own σ ρ a := fun {sl'} hn a ⟨j, d, h1, h2⟩ => by
    by_cases n : i = j
    · subst n
      by_cases hi : i < ρ.length
      · rw [List.getElem?_set_self hi] at h1; exact absurd (Option.some.inj h1) (hn d)
      · rw [List.getElem?_eq_none (by rw [List.length_set]; omega)] at h1; cases h1
    · rw [List.getElem?_set_ne n] at h1 h2
      exact ⟨j, d, h1, h2⟩
  cases sl with
  | pu d =>
    refine ⟨⟨x.x.setP hs i, x.i, x.g, fun a z w => x.o a z (own_setP x.x.len w)⟩, fun a z => .inl (own_setP x.x.len z), obk_set fun _ _ _ z => by cases z⟩
  | un =>
    have xx := x.x
    refine ⟨⟨⟨xx.gh, by rw [List.length_set, List.length_set]; exact xx.len, fun j d h => ?_, fun j d h => ?_, fun j k ds es p h1 h2 h3 h4 => ?_⟩, x.i, x.g, fun a z w => x.o a z (sub (fun _ z => by cases z) a w)⟩, fun a z => .inl (sub (fun _ z => by cases z) a z), obk_set fun _ _ _ z => by cases z⟩
    all_goals
      have un : ∀ {j : Nat} {q : Sl}, q ≠ .un → (ρ.set i .un)[j]? = some q → i ≠ j ∧ ρ[j]? = some q := fun {j q} hq e => by
        by_cases n : i = j
        · subst n
          by_cases hi : i < ρ.length
          · rw [List.getElem?_set_self hi] at e; exact absurd (Option.some.inj e).symm hq
          · rw [List.getElem?_eq_none (by rw [List.length_set]; omega)] at e; cases e
        · rw [List.getElem?_set_ne n] at e; exact ⟨n, e⟩
    · obtain ⟨n, e⟩ := un (fun z => by cases z) h
      rw [List.getElem?_set_ne n]; exact xx.pu j d e
    · obtain ⟨n, e⟩ := un (fun z => by cases z) h
      rw [List.getElem?_set_ne n]; exact xx.ow j d e
    · obtain ⟨n1, e1⟩ := un (fun z => by cases z) h1
      obtain ⟨n2, e2⟩ := un (fun z => by cases z) h2
      rw [List.getElem?_set_ne n1] at h3
      rw [List.getElem?_set_ne n2] at h4
      exact xx.inj j k ds es p e1 e2 h3 h4
  | ow d =>
    obtain ⟨p, o, rfl, g1, g2, g3, g4, g5, g6⟩ := hs
    have new : ∀ a, Own (σ.set i (some (.ref p))) (ρ.set i (.ow d)) a → Own σ ρ a ∨ a = p := fun a z => own_setO x.x.len z
    refine ⟨⟨x.x.setO i g2 g4 g5 fun j es _ h1 h2 => h0 p ⟨j, es, h1, h2⟩ g1, x.i, x.g, fun a z w => ?_⟩, fun a z => ?_, obk_set fun C ns ds z => by injection z with z; rw [z] at g6; cases g6⟩
    · rcases new a w with q | q
      · exact x.o a z q
      · exact g3 (q ▸ z)
    · rcases new a z with q | q
      · exact .inl q
      · exact .inr (q ▸ g1)
end
section
variable {τ : Type} (Ω : Om τ)
def SvWS (t : TE) (φ : WF τ Sl) : Prop := ∀ ρ s R, φ ρ s R → ∀ (G H : Hp) (σ : St), EnvW Ω s G H σ ρ → ∀ Q : VK, (∀ sl v s2 G2 H2, R sl s2 → FrW Ω s G H s2 G2 H2 → HasSl Ω s2 G2 H2 H sl v → Q v H2) → t σ H Q
structure SvW (X : Cx) (e : Expr) (t : TE) (φ : WF τ Sl) : Prop where
  pe : PE X e t
  ev : SvWS Ω t φ
end
section
variable {τ β : Type} {Ω : Om τ} {X : Cx} {W : WX} {e a b c tg : Expr} {es : List Expr} {t ta tb : TE} {tt tu' : TT} {tr : TA} {ts tu : TS} {φ φa φb : WF τ D} {χ ξ : WF τ Bool} {ψ : WF τ (List D)} {ζ ζ1 ζ2 ζ3 : WF τ Sl} {pos : Pos} {g : TG} {θ : D → Env → Option Env} {Φ Ψ : WF τ Ou} {st : Stmt} {sa sb rest : List Stmt} {wi : TI}
def svP (φ : WF τ D) : WF τ Sl := fun ρ s R => φ ρ s fun d s1 => R (.pu d) s1
def svO (φ : WF τ D) : WF τ Sl := fun ρ s R => φ ρ s fun d s1 => isObj d = false ∧ R (.ow d) s1
theorem PuW.sv (h : PuW Ω X e t φ) : SvW Ω X e t (svP φ) := ⟨h.pe, fun ρ s R hh G H σ x Q k => h.ev ρ s _ hh G H σ x Q fun d v s2 G2 H2 q f r => k _ v s2 G2 H2 q f r⟩
theorem OwW.sv (h : OwW Ω X e t φ) : SvW Ω X e t (svO φ) := ⟨h.pe, fun ρ s R hh G H σ x Q k => h.ev ρ s _ hh G H σ x Q fun d p o s2 G2 H2 q f n1 n2 n3 hp r => k _ _ s2 G2 H2 q.2 f ⟨p, o, rfl, n1, n2, n3, hp, r, q.1⟩⟩
/-! assignments -/
def setW (i : Nat) (ζ : WF τ Sl) : WF τ Ou := fun ρ s R => ζ ρ s fun sl s1 => R (.nx (ρ.set i sl)) s1
theorem own_ne {s : τ} {G H : Hp} {σ : St} {ρ : Env} (x : EnvW Ω s G H σ ρ) : ∀ a, Own σ ρ a → H a ≠ none := fun a h => own_some x.x h
theorem sw_set {i : Nat} {x : Str} {pos' : Pos} (h : SvW Ω X e t ζ) (hp : PE X e t → PS X (.Assign [.Name x pos'] e pos) (tAsg t (gName i))) : StW Ω W X (.Assign [.Name x pos'] e pos) (tAsg t (gName i)) (setW i ζ) := ⟨hp h.pe, fun ρ s R hh G H σ x De k => by
  refine h.ev ρ s _ hh G H σ x _ fun sl v s1 G1 H1 q f hs => ?_
  have x1 := x.mono f
  obtain ⟨y, o, ob⟩ := store_ok x1 (own_ne x) hs i
  refine k _ s1 q _ G1 H1 y ⟨f.g, fun a u h1 _ n => f.h a u h1 n, fun a h1 h2 _ => f.nw a h1 h2, o, ob, fun a z => (f.fp a z).elim .inl fun w => .inr (.inl w), f.kp⟩⟩
def asgW (φ : WF τ D) (θ : D → Env → Option Env) : WF τ Ou := fun ρ s R => φ ρ s fun d s1 => ∃ ρ2, θ d ρ = some ρ2 ∧ R (.nx ρ2) s1
theorem sw_asg (h : PuW Ω X e t φ) (hg : TgD X tg g θ) (hs : swapsWithSole [tg] e pos.line X.env = pure false := by rfl) (hw : swappedStores [tg] e X.env = pure none := by rfl)
    (h1 : (assignEach [tg] X.env).map (·.2) = [assign tg X.env] := by rfl) : StW Ω W X (.Assign [tg] e pos) (tAsg t g) (asgW φ θ) := ⟨ps_asg h.pe hg.pg hs hw h1, fun ρ s R hh G H σ x De k => by
  refine h.ev ρ s _ hh G H σ x _ fun d v s1 G1 H1 ⟨ρ2, e3, q⟩ f r => ?_
  have x1 := x.mono f
  refine hg.ev d ρ ρ2 e3 G1 H1 σ v x1.x r _ fun σ2 x2 o2 ob => ?_
  have fs := FrSW.sub x1 o2 ob
  exact k _ s1 q σ2 G1 H1 ⟨x2, x1.i, x1.g, fun a z w => x1.o a z (o2 a w)⟩ ((FrSW.of x f).trans x x1 fs)⟩
/-- a, b = .., .. -/
def par2W (i j : Nat) (ζ1 ζ2 : WF τ Sl) : WF τ Ou := fun ρ s R => ζ1 ρ s fun s1 t1 => ζ2 ρ t1 fun s2 t2 => R (.nx ((ρ.set i s1).set j s2)) t2
theorem own_sets {σ : St} {ρ : Env} {i : Nat} {v : V} {sl : Sl} {a : Addr} (h : Own (σ.set i (some v)) (ρ.set i sl) a) : Own σ ρ a ∨ v = .ref a := by
  obtain ⟨j, d, h1, h2⟩ := h
  by_cases n : i = j
  · subst n
    by_cases hi : i < σ.length
    · rw [List.getElem?_set_self hi] at h2; exact .inr (Option.some.inj (Option.some.inj h2))
    · rw [List.getElem?_eq_none (by rw [List.length_set]; omega)] at h2; cases h2
  · rw [List.getElem?_set_ne n] at h1 h2
    exact .inl ⟨j, d, h1, h2⟩
theorem sw_par2 {i j : Nat} {t1 t2 : TE} (h1 : SvW Ω X a t1 ζ1) (h2 : SvW Ω X b t2 ζ2) (hp : PA X [a, b] (tCons t1 (tCons t2 tNil)) → PS X st (tPar i j (tCons t1 (tCons t2 tNil))))
    (hs1 : starEach [b] X.env = (false, eval b X.env) :: starEach [] X.env := by rfl) (hs : starEach [a, b] X.env = (false, eval a X.env) :: starEach [b] X.env := by rfl) : StW Ω W X st (tPar i j (tCons t1 (tCons t2 tNil))) (par2W i j ζ1 ζ2) := ⟨hp (pa_cons h1.pe (pa_cons h2.pe pa_nil hs1) hs), fun ρ s R hh G H σ x De k => by
  refine h1.ev ρ s _ hh G H σ x _ fun sl1 v1 s1 G1 H1 q1 f1 r1 => ?_
  have x1 := x.mono f1
  refine h2.ev ρ s1 _ q1 G1 H1 σ x1 _ fun sl2 v2 s2 G2 H2 q2 f2 r2 => ⟨v1, v2, rfl, ?_⟩
  have x2 := x1.mono f2
  have f := f1.trans f2
  obtain ⟨y1, o1, b1⟩ := store_ok x2 (own_ne x) (r1.mono f2) i
  have o1' : ∀ c, Own (σ.set i (some v1)) (ρ.set i sl1) c → H1 c ≠ none := fun c z n => by
    rcases own_sets z with w | w
    · exact own_some x1.x w n
    · cases sl1 with
      | pu d =>
        rcases o1 c z with u | u
        · exact own_some x1.x u n
        · obtain ⟨j', d', z1, z2⟩ := z
          by_cases m : i = j'
          · subst m
            by_cases hi : i < ρ.length
            · rw [List.getElem?_set_self hi] at z1; cases z1
            · rw [List.getElem?_eq_none (by rw [List.length_set]; omega)] at z1; cases z1
          · rw [List.getElem?_set_ne m] at z1 z2
            exact own_some x1.x ⟨j', d', z1, z2⟩ n
      | un =>
        obtain ⟨j', d', z1, z2⟩ := z
        by_cases m : i = j'
        · subst m
          by_cases hi : i < ρ.length
          · rw [List.getElem?_set_self hi] at z1; cases z1
          · rw [List.getElem?_eq_none (by rw [List.length_set]; omega)] at z1; cases z1
        · rw [List.getElem?_set_ne m] at z1 z2
          exact own_some x1.x ⟨j', d', z1, z2⟩ n
      | ow d =>
        obtain ⟨p, o, e1, _, _, _, e5, _⟩ := r1
        rw [w] at e1
        cases e1
        rw [n] at e5
        cases e5
  obtain ⟨y2, o2, b2⟩ := store_ok y1 o1' r2 j
  refine k _ s2 q2 _ G2 H2 y2 ⟨f.g, fun c u z1 _ n => f.h c u z1 n, fun c z1 z2 _ => f.nw c z1 z2, fun c z => ?_, b1.trans b2, fun c z => (f.fp c z).elim .inl fun w => .inr (.inl w), f.kp⟩
  rcases o2 c z with w | w
  · exact o1 c w
  · exact .inr (f1.back w)⟩
/-- a, b, c = .., .., ..: values that may be kept -/
def par3W (i j l : Nat) (φa φb φc : WF τ D) : WF τ Ou := fun ρ s R => φa ρ s fun d1 t1 => φb ρ t1 fun d2 t2 => φc ρ t2 fun d3 t3 => R (.nx (((ρ.set i (.pu d1)).set j (.pu d2)).set l (.pu d3))) t3
theorem sw_par3 {i j l : Nat} {t1 t2 t3 : TE} {φc : WF τ D} (h1 : PuW Ω X a t1 φa) (h2 : PuW Ω X b t2 φb) (h3 : PuW Ω X c t3 φc) (hp : PA X [a, b, c] (tCons t1 (tCons t2 (tCons t3 tNil))) → PS X st (tPar3 i j l (tCons t1 (tCons t2 (tCons t3 tNil)))))
    (hs2 : starEach [c] X.env = (false, eval c X.env) :: starEach [] X.env := by rfl) (hs1 : starEach [b, c] X.env = (false, eval b X.env) :: starEach [c] X.env := by rfl) (hs : starEach [a, b, c] X.env = (false, eval a X.env) :: starEach [b, c] X.env := by rfl) : StW Ω W X st (tPar3 i j l (tCons t1 (tCons t2 (tCons t3 tNil)))) (par3W i j l φa φb φc) := ⟨hp (pa_cons h1.pe (pa_cons h2.pe (pa_cons h3.pe pa_nil hs2) hs1) hs), fun ρ s R hh G H σ x De k => by
  refine h1.ev ρ s _ hh G H σ x _ fun d1 v1 s1 G1 H1 q1 f1 r1 => ?_
  have x1 := x.mono f1
  refine h2.ev ρ s1 _ q1 G1 H1 σ x1 _ fun d2 v2 s2 G2 H2 q2 f2 r2 => ?_
  have x2 := x1.mono f2
  refine h3.ev ρ s2 _ q2 G2 H2 σ x2 _ fun d3 v3 s3 G3 H3 q3 f3 r3 => ⟨v1, v2, v3, rfl, ?_⟩
  have x3 := x2.mono f3
  have f := (f1.trans f2).trans f3
  have n1 : ∀ {σ' ρ'}, (∀ c, Own σ' ρ' c → Own σ ρ c) → ∀ c, Own σ' ρ' c → H3 c ≠ none := fun {σ' ρ'} hs c z => own_some x3.x (hs c z)
  obtain ⟨y1, o1, b1⟩ := store_ok (sl := .pu d1) x3 (own_ne x3) ((r1.mono f2.g).mono f3.g) i
  have s1' : ∀ c, Own (σ.set i (some v1)) (ρ.set i (.pu d1)) c → Own σ ρ c := fun c z => own_setP x.x.len z
  obtain ⟨y2, o2, b2⟩ := store_ok (sl := .pu d2) y1 (n1 s1') (r2.mono f3.g) j
  have s2' : ∀ c, Own ((σ.set i (some v1)).set j (some v2)) ((ρ.set i (.pu d1)).set j (.pu d2)) c → Own σ ρ c := fun c z => s1' c (own_setP y1.x.len z)
  obtain ⟨y3, o3, b3⟩ := store_ok (sl := .pu d3) y2 (n1 s2') r3 l
  exact k _ s3 q3 _ G3 H3 y3 ⟨f.g, fun c u z1 _ n => f.h c u z1 n, fun c z1 z2 _ => f.nw c z1 z2, fun c z => .inl (s2' c (own_setP y2.x.len z)), (b1.trans b2).trans b3, fun c z => (f.fp c z).elim .inl fun w => .inr (.inl w), f.kp⟩⟩
/-! sequences, return, if -/
def seqW (Φ Ψ : WF τ Ou) : WF τ Ou := fun ρ s R => Φ ρ s fun o s1 => match o with
  | .nx ρ2 => Ψ ρ2 s1 R
  | o => R o s1
theorem end_frS {De : Ends} {s s2 s3 : τ} {σ σ2 : St} {ρ ρ2 : Env} {G H G2 H2 : Hp} (x : EnvW Ω s G H σ ρ) (x2 : EnvW Ω s2 G2 H2 σ2 ρ2) (f : FrSW Ω s σ ρ G H s2 σ2 ρ2 G2 H2) {o : Ou} (k : EndW Ω De W s σ ρ G H o s3) : EndW Ω De W s2 σ2 ρ2 G2 H2 o s3 := by
  cases o with
  | nx ρ3 => exact fun σ3 G3 H3 x3 f3 => k σ3 G3 H3 x3 (f.trans x x2 f3)
  | bk ρ3 => exact fun σ3 G3 H3 x3 f3 => k σ3 G3 H3 x3 (f.trans x x2 f3)
  | ct ρ3 => exact fun σ3 G3 H3 x3 f3 => k σ3 G3 H3 x3 (f.trans x x2 f3)
  | rt d => exact fun v G3 H3 f3 r3 => k v G3 H3 (f.transR x x2 f3) r3
  | rz ρ3 c ns ds => exact fun σ3 G3 H3 xo x3 f3 r3 => k σ3 G3 H3 xo x3 (f.trans x x2 f3) r3
theorem end_frW {De : Ends} {s s2 s3 : τ} {σ : St} {ρ : Env} {G H G2 H2 : Hp} (x : EnvW Ω s G H σ ρ) (f : FrW Ω s G H s2 G2 H2) {o : Ou} (k : EndW Ω De W s σ ρ G H o s3) : EndW Ω De W s2 σ ρ G2 H2 o s3 := end_frS x (x.mono f) (.of x f) k
theorem end_nx {De : Ends} {N : St → Hp → Prop} {s s2 : τ} {σ : St} {ρ : Env} {G H : Hp} {o : Ou} (hn : ∀ ρ2, o ≠ .nx ρ2) (k : EndW Ω De W s σ ρ G H o s2) : EndW Ω { De with nx := N } W s σ ρ G H o s2 := by
  cases o with
  | nx ρ3 => exact absurd rfl (hn ρ3)
  | bk ρ3 => exact k
  | ct ρ3 => exact k
  | rt d => exact k
  | rz ρ3 c ns ds => exact k
theorem seq_evW (h1 : StWS Ω W ts Φ) (h2 : StWS Ω W tu Ψ) : StWS Ω W (tSeq ts tu) (seqW Φ Ψ) := fun ρ s R hh G H σ x De k => by
  refine h1 ρ s _ hh G H σ x _ fun o s1 q => ?_
  cases o with
  | nx ρ2 =>
    intro σ2 G2 H2 x2 f2
    exact h2 ρ2 s1 R q G2 H2 σ2 x2 De fun o s2 r => end_frS x x2 f2 (k o s2 r)
  | rt d => exact end_nx (fun _ z => by cases z) (k _ s1 q)
  | bk ρ2 => exact end_nx (fun _ z => by cases z) (k _ s1 q)
  | ct ρ2 => exact end_nx (fun _ z => by cases z) (k _ s1 q)
  | rz ρ2 c ns ds => exact end_nx (fun _ z => by cases z) (k _ s1 q)
def skipW : WF τ Ou := fun ρ s R => R (.nx ρ) s
theorem ssw_nil : SsW Ω W X [] tNext skipW := ⟨pss_nil, fun ρ s R h G H σ x De k => k _ s h σ G H x (.refl x)⟩
theorem ssw_one (h : StW Ω W X st ts Φ) : SsW Ω W X [st] ts Φ := ⟨pss_one h.ps, h.ev⟩
theorem ssw_cons (h : StW Ω W X st ts Φ) (hr : SsW Ω W X rest tu Ψ) : SsW Ω W X (st :: rest) (tSeq ts tu) (seqW Φ Ψ) := ⟨pss_cons h.ps hr.ps, seq_evW h.ev hr.ev⟩
def retW (φ : WF τ D) : WF τ Ou := fun ρ s R => φ ρ s fun d s1 => R (.rt d) s1
theorem sw_ret (h : PuW Ω X e t φ) : StW Ω W X (.Return (some e) pos) (tRet t) (retW φ) := ⟨ps_ret h.pe, fun ρ s R hh G H σ x De k => by
  exact h.ev ρ s _ hh G H σ x _ fun d v s1 G1 H1 q f r => k _ s1 q v G1 H1 (.of f) r⟩
def ifSW (χ : WF τ Bool) (Φ Ψ : WF τ Ou) : WF τ Ou := fun ρ s R => χ ρ s fun b s1 => if b = true then Φ ρ s1 R else Ψ ρ s1 R
theorem sw_if (h : TeW Ω X c tt χ) (ha : SsW Ω W X sa ts Φ) (hb : SsW Ω W X sb tu Ψ) : StW Ω W X (.If c sa sb pos) (tIfS tt ts tu) (ifSW χ Φ Ψ) := ⟨ps_if h.pt ha.ps hb.ps, fun ρ s R hh G H σ x De k => by
  refine h.ev ρ s _ hh G H σ x _ fun b s1 G1 H1 q f => ?_
  cases b with
  | true => exact ha.ev ρ s1 R q G1 H1 σ (x.mono f) De fun o s2 r => end_frW x f (k o s2 r)
  | false => exact hb.ev ρ s1 R q G1 H1 σ (x.mono f) De fun o s2 r => end_frW x f (k o s2 r)⟩
theorem sw_drop (h : PuW Ω X e t φ) (hs : swapsWith e none pos.line X.env = pure false := by rfl) : StW Ω W X (.Expr e pos) (tDrop t) (fun ρ s R => φ ρ s fun _ s1 => R (.nx ρ) s1) := ⟨ps_expr h.pe hs, fun ρ s R hh G H σ x De k => by
  exact h.ev ρ s _ hh G H σ x _ fun d v s1 G1 H1 q f r => k _ s1 q σ G1 H1 (x.mono f) (.of x f)⟩
/-! own things written to -/
/-- what writing to an own thing leaves -/
theorem grow_okW {s : τ} {G H : Hp} {σ : St} {ρ : Env} (x : EnvW Ω s G H σ ρ) {i : Nat} {xs ys : D} {p : Addr} {ob : HO} (hk : ∀ C ns ds, ys = .obj C ns ds → ∃ C' ns' ds', xs = .obj C' ns' ds') (h1 : ρ[i]? = some (Sl.ow xs)) (h2 : σ[i]? = some (some (V.ref p))) (r : Top G ys ob) :
    EnvW Ω s G (upd H p ob) σ (ρ.set i (Sl.ow ys)) ∧ FrSW Ω s σ ρ G H s σ (ρ.set i (Sl.ow ys)) G (upd H p ob) := by
  obtain ⟨y, f⟩ := grow_ok x.x hk h1 h2 r
  obtain ⟨f', y'⟩ := FrSW.lift x y f
  exact ⟨y', f'⟩
def growW {β : Type} (i : Nat) (φ : WF τ β) (op : List D → β → List D) : WF τ Ou := fun ρ s R => match ρ[i]? with
  | some (.ow (.seq true xs)) => φ ρ s fun d s1 => (op xs d).length ≤ Lim ∧ R (.nx (ρ.set i (Sl.ow (.seq true (op xs d))))) s1
  | _ => False
theorem sw_app {i : Nat} {o : Expr} {apos cpos : Pos} (h : PuW Ω X e t φ) (hp : PE X e t → PS X (.Expr (.Call (.Attribute o "append" apos) [e] [] cpos) pos) (tDrop (tBM X.K "list" rAppend (tVar i) (tCons t tNil)))) :
    StW Ω W X (.Expr (.Call (.Attribute o "append" apos) [e] [] cpos) pos) (tDrop (tBM X.K "list" rAppend (tVar i) (tCons t tNil))) (growW i φ fun xs d => xs ++ [d]) := ⟨hp h.pe, fun ρ s R hh G H σ x De k => by
  unfold growW at hh
  split at hh
  · rename_i xs h1
    obtain ⟨p, ob, h2, h3, h4, us, rfl, h5, h6⟩ := x.x.ow i _ h1
    refine ⟨_, h2, .inl ⟨rfl, _, SqL.of h4⟩, h.ev ρ s _ hh G H σ x _ fun d v s1 G1 H1 q f r => ?_⟩
    have gg := grow_okW (x.mono f) (fun _ _ _ z => by cases z) (ys := .seq true (xs ++ [d])) (ob := .lst (us ++ [v])) h1 h2 ⟨_, rfl, q.1, (h6.mono f.g).app (.cons r .nil)⟩
    refine ⟨p, us, v, rfl, rfl, f.h _ _ h4 (x.no ⟨i, _, h1, h2⟩), ?_, k _ s1 q.2 σ G1 _ gg.1 ((FrSW.of x f).trans x (x.mono f) gg.2)⟩
    have : us.length ≤ Lim := by rw [h6.len]; exact h5
    rw [sizeLine_eq]; have : Lim = 5000 := rfl; omega
  · exact hh.elim⟩
/-- d[k] = v -/
def repL : List Key → List D → Key → D → List D
  | k :: ks, d :: ds, x, v => (if k = x then v else d) :: repL ks ds x v
  | _, ds, _, _ => ds
def putD (ks : List Key) (ds : List D) (k : Key) (d : D) : D := if memK k ks = true then .dct ks (repL ks ds k d) else .dct (ks ++ [k]) (ds ++ [d])
theorem repL_len : ∀ {ks : List Key} {ds : List D} {k : Key} {d : D}, (repL ks ds k d).length = ds.length
  | [], ds, k, d => rfl
  | x :: ks, [], k, d => rfl
  | x :: ks, e :: ds, k, d => by unfold repL; rw [List.length_cons, List.length_cons, repL_len]
theorem repL_rep {G : Hp} {k : Key} {d : D} {v : V} (r : Rep G d v) : ∀ {ks : List Key} {ds : List D} {us : List V}, Reps G ds us → ks.length = ds.length →
    ∃ us', (ks.zip us).map (fun kv => if kv.1 = k then (kv.1, v) else kv) = ks.zip us' ∧ us'.length = us.length ∧ Reps G (repL ks ds k d) us'
  | [], ds, us, h, hl => by
    have : ds = [] := List.length_eq_zero_iff.mp hl.symm
    subst this
    exact ⟨us, rfl, rfl, h⟩
  | x :: ks, [], us, h, hl => by simp at hl
  | x :: ks, e :: ds, us, h, hl => by
    obtain ⟨u, us1, rfl, q, tl⟩ := h.un
    obtain ⟨us', h1, h2, h3⟩ := repL_rep r tl (by simpa using hl)
    rw [List.zip_cons_cons, List.map_cons, h1, repL]
    by_cases e : x = k
    · rw [if_pos e, if_pos e]
      exact ⟨v :: us', rfl, by rw [List.length_cons, List.length_cons, h2], .cons r h3⟩
    · rw [if_neg e, if_neg e]
      exact ⟨u :: us', rfl, by rw [List.length_cons, List.length_cons, h2], .cons q h3⟩
def dputW (i : Nat) (φk φv : WF τ D) : WF τ Ou := fun ρ s R => match ρ[i]? with
  | some (.ow (.dct ks ds)) => φv ρ s fun d s1 => φk ρ s1 fun y s2 => ∃ k, keyD y = some k ∧ ds.length < 1000 ∧ R (.nx (ρ.set i (Sl.ow (putD ks ds k d)))) s2
  | _ => False
theorem sw_dput {i : Nat} {o ik : Expr} {pos' : Pos} (hu : X.A.units + 1 < cLine) (ho : PE X o (tVar i)) (hk : PuW Ω X ik ta φa) (hv : PuW Ω X e t φ) (hs : swapsWith e (some (.Subscript o ik pos')) pos.line X.env = pure false := by rfl) :
    StW Ω W X (.Assign [.Subscript o ik pos'] e pos) (sDPut (tVar i) ta t) (dputW i φa φ) := ⟨ps_dput hu ho hk.pe hv.pe hs, fun ρ s R hh G H σ x De k => by
  unfold dputW at hh
  split at hh
  · rename_i ks ds h1
    obtain ⟨p, ob, h2, h3, h4, us, rfl, h5, h6, h7⟩ := x.x.ow i _ h1
    refine hv.ev ρ s _ hh G H σ x _ fun d v s1 G1 H1 q1 f1 r1 => ⟨_, h2, ?_⟩
    refine hk.ev ρ s1 _ q1 G1 H1 σ (x.mono f1) _ fun dk vk s2 G2 H2 q2 f2 r2 => ?_
    obtain ⟨kk, e4, hl, q3⟩ := q2
    have f := f1.trans f2
    have x2 := x.mono f
    obtain rfl := keyD_kV (G := G2) (H := H2) e4 (.inl r2)
    have hlu : ks.length = us.length := by rw [h5, h7.len]
    refine ⟨p, _, rfl, DPut.k (f.h _ _ h4 (x.no ⟨i, _, h1, h2⟩)) ?_, ?_⟩
    · rw [List.length_zip, ← hlu, Nat.min_self, h5, sizeLine_eq]; omega
    · obtain ⟨us', e5, e6, e7⟩ : ∃ us', putK (ks.zip us) kk v = (match putD ks ds kk d with | .dct ks' _ => ks' | _ => []).zip us' ∧ us'.length = (match putD ks ds kk d with | .dct ks' _ => ks' | _ => []).length ∧ (match putD ks ds kk d with | .dct _ ds' => Reps G2 ds' us' | _ => False) := by
        unfold putD
        by_cases m : memK kk ks = true
        · rw [if_pos m]
          obtain ⟨us', a1, a2, a3⟩ := repL_rep (k := kk) (r1.mono f2.g) (h7.mono f.g) h5
          refine ⟨us', ?_, by rw [a2, ← hlu], a3⟩
          unfold putK
          have : ((ks.zip us).any fun kv => decide (kv.1 = kk)) = true := by
            obtain ⟨z, z1, z2⟩ := List.any_eq_true.mp m
            obtain ⟨n, hn, rfl⟩ := List.getElem_of_mem z1
            exact List.any_eq_true.mpr ⟨(ks[n], us[n]'(by omega)), List.mem_iff_getElem.mpr ⟨n, by rw [List.length_zip]; omega, by rw [List.getElem_zip]⟩, z2⟩
          rw [if_pos this]
          exact a1
        · rw [if_neg m]
          refine ⟨us ++ [v], ?_, by show (us ++ [v]).length = (ks ++ [kk]).length; rw [List.length_append, List.length_append, hlu]; rfl, (h7.mono f.g).app (.cons (r1.mono f2.g) .nil)⟩
          exact putK_zip (Bool.not_eq_true _ ▸ m) hlu
      rw [e5]
      have gg := grow_okW x2 (fun _ _ _ z => by unfold putD at z; split at z <;> cases z) (ys := putD ks ds kk d) (ob := .dK ((match putD ks ds kk d with | .dct ks' _ => ks' | _ => []).zip us')) h1 h2 (by
        unfold putD at e6 e7 ⊢
        by_cases m : memK kk ks = true
        · rw [if_pos m] at e6 e7 ⊢
          exact ⟨us', rfl, by rw [repL_len]; exact h5, by rw [repL_len]; exact h6, e7⟩
        · rw [if_neg m] at e6 e7 ⊢
          exact ⟨us', rfl, by rw [List.length_append, List.length_append, h5]; rfl, by rw [List.length_append]; have : Lim = 5000 := rfl; have : [d].length = 1 := rfl; omega, e7⟩)
      exact k _ s2 q3 σ G2 _ gg.1 ((FrSW.of x f).trans x x2 gg.2)
  · exact hh.elim⟩
end
end L2.Tr

/-! Trees beside something that changes: loops, comprehensions, defs. -/
namespace L2.Tr
open PySem PySem.Spec PyProof.Rows
section
variable {τ β : Type} {Ω : Om τ} {X : Cx} {W : WX} {e a b c tg : Expr} {es : List Expr} {t ta tb : TE} {tt tu' : TT} {tr : TA} {ts tu : TS} {φ φa φb : WF τ D} {χ ξ : WF τ Bool} {ψ : WF τ (List D)} {pos : Pos} {g : TG} {θ : D → Env → Option Env} {Φ Ψ : WF τ Ou} {st : Stmt} {sa sb rest : List Stmt} {wi : TI}
def loopW (θ : D → Env → Option Env) (Φ : WF τ Ou) : List D → WF τ Ou
  | [], ρ, s, R => R (.nx ρ) s
  | d :: ds, ρ, s, R => ∃ ρ1, θ d ρ = some ρ1 ∧ Φ ρ1 s fun o s2 => match o with
    | .nx ρ2 => loopW θ Φ ds ρ2 s2 R
    | .ct ρ2 => loopW θ Φ ds ρ2 s2 R
    | .bk ρ2 => R (.nx ρ2) s2
    | .rt d => R (.rt d) s2
    | .rz ρ2 c ns ds => R (.rz ρ2 c ns ds) s2
def forW (ψ : WF τ (List D)) (θ : D → Env → Option Env) (Φ : WF τ Ou) : WF τ Ou := fun ρ s R => ψ ρ s fun ds s1 => loopW θ Φ ds ρ s1 R
theorem sw_for {body : List Stmt} (hp : PassesOwn (model X.prog X.w) X.A X.env X.xe) (hc : X.calm = true) (hi : ItW Ω X tg e wi ψ) (hg : TgD X tg g θ) (hb : SsW Ω W X body tu Φ) (hs : ∀ x, foldedSetIterable e X.env x = pure x := by intro _; rfl) :
    StW Ω W X (.For tg e body [] pos) (tFor wi g tu) (forW ψ θ Φ) := ⟨ps_for hp hc hi.pi hg.pg hb.ps hs, fun ρ s R hh G H σ x De k => by
  refine hi.ev ρ s _ hh G H σ x _ fun ds s1 J G1 H1 Γ Y q f1 wk hΓ hY => ?_
  have x1 := x.mono f1
  refine for_it wk (fun i σ' H' => ∃ G' ρ' s', Ex G1 G' ∧ EnvW Ω s' G' H' σ' ρ' ∧ FrSW Ω s1 σ ρ G1 H1 s' σ' ρ' G' H' ∧ loopW θ Φ (ds.drop i) ρ' s' R) ⟨G1, ρ, s1, Ex.refl _, x1, .refl x1, by rw [List.drop_zero]; exact q⟩
    (fun i σ' H' _ ⟨G', ρ', s', g', x', _, _⟩ => hΓ H' (g'.trans x'.x.gh)) ?_ ?_
  · rintro i y σ' H' H'' hi' ⟨G', ρ', s', g', x', f', l'⟩ yy
    obtain ⟨d, G'', h1, f2, r2⟩ := hY i H' y H'' G' hi' g' x'.x.gh yy
    have hd : ds.drop i = d :: ds.drop (i + 1) := by
      rw [List.drop_eq_getElem_cons hi']
      congr 1
      rw [List.getElem?_eq_getElem hi'] at h1
      exact Option.some.inj h1
    rw [hd] at l'
    unfold loopW at l'
    obtain ⟨ρ1, e3, e4⟩ := l'
    have x'' := x'.mono (.of x' f2)
    refine hg.ev d ρ' ρ1 e3 G'' H'' σ' y x''.x r2 _ fun σ2 x2 o2 ob => ?_
    have fs := FrSW.sub x'' o2 ob
    have x2' : EnvW Ω s' G'' H'' σ2 ρ1 := ⟨x2, x''.i, x''.g, fun a z w => x''.o a z (o2 a w)⟩
    have fr : FrSW Ω s1 σ ρ G1 H1 s' σ2 ρ1 G'' H'' := f'.trans x1 x' ((FrSW.of x' (.of x' f2)).trans x' x'' fs)
    refine hb.ev ρ1 s' _ e4 G'' H'' σ2 x2' _ fun o1 s2 q2 => ?_
    have fr0 := (FrSW.of x f1).trans x x1 fr
    cases o1 with
    | nx ρ2 => exact fun σ3 G3 H3 x3 f3 => ⟨G3, ρ2, s2, g'.trans (f2.g.trans f3.g), x3, fr.trans x1 x2' f3, q2⟩
    | ct ρ2 => exact fun σ3 G3 H3 x3 f3 => ⟨G3, ρ2, s2, g'.trans (f2.g.trans f3.g), x3, fr.trans x1 x2' f3, q2⟩
    | bk ρ2 => exact fun σ3 G3 H3 x3 f3 => k _ s2 q2 σ3 G3 H3 x3 (fr0.trans x x2' f3)
    | rt z => exact fun v G3 H3 f3 r3 => k _ s2 q2 v G3 H3 (fr0.transR x x2' f3) r3
    | rz ρ2 c ns ds => exact fun σ3 G3 H3 xo x3 f3 r3 => k _ s2 q2 σ3 G3 H3 xo x3 (fr0.trans x x2' f3) r3
  · rintro σ' H' ⟨G', ρ', s', g', x', f', l'⟩
    rw [List.drop_length] at l'
    exact k _ s' l' σ' G' H' x' ((FrSW.of x f1).trans x x1 f')⟩
/-! comprehensions -/
def cPuW (Ω : Om τ) (φ : WF τ D) : TE := fun σ H Q => ∃ (ρ : Env) (s : τ) (R : D → τ → Prop) (G : Hp), φ ρ s R ∧ EnvW Ω s G H σ ρ ∧ ∀ d v s2 G2 H2, R d s2 → FrW Ω s G H s2 G2 H2 → Rep G2 d v → Q v H2
def cTeW (Ω : Om τ) (χ : WF τ Bool) : TT := fun σ H Q => ∃ (ρ : Env) (s : τ) (R : Bool → τ → Prop) (G : Hp), χ ρ s R ∧ EnvW Ω s G H σ ρ ∧ ∀ b s2 G2 H2, R b s2 → FrW Ω s G H s2 G2 H2 → Q b H2
theorem PuW.cc (h : PuW Ω X e t φ) : PE X e (cPuW Ω φ) := ⟨fun pins s' σ H Q I ⟨ρ, s, R, G, h1, h2, h3⟩ => h.pe.run pins s' σ H Q I (h.ev ρ s R h1 G H σ h2 Q h3)⟩
theorem TeW.cc (h : TeW Ω X e tt χ) : PT X e (cTeW Ω χ) := ⟨fun pins s' σ H Q I ⟨ρ, s, R, G, h1, h2, h3⟩ => h.pt.run pins s' σ H Q I (h.ev ρ s R h1 G H σ h2 Q h3)⟩
def compW (θ : D → Env → Option Env) (χ : WF τ Bool) (φ : WF τ D) : List D → WF τ (List D)
  | [], _, s, R => R [] s
  | d :: ds, ρ, s, R => ∃ ρ1, θ d ρ = some ρ1 ∧ χ ρ1 s fun b s1 => if b = true then φ ρ1 s1 fun z s2 => compW θ χ φ ds ρ s2 fun zs s3 => R (z :: zs) s3 else compW θ χ φ ds ρ s1 R
def lcW (vs : List Nat) (ψ : WF τ (List D)) (θ : D → Env → Option Env) (χ : WF τ Bool) (φ : WF τ D) : WF τ D := fun ρ s R => ψ ρ s fun ds s1 => ds.length ≤ Lim ∧ compW θ χ φ ds (wipeE ρ vs) s1 fun zs s2 => R (.seq true zs) s2
def yesW : WF τ Bool := fun _ s R => R true s
theorem own_wipe {σ : St} {ρ : Env} {vs : List Nat} {a : Addr} (h : Own (L2.wipe σ vs) (wipeE ρ vs) a) : Own σ ρ a := by
  obtain ⟨i, d, h1, h2⟩ := h
  obtain ⟨h3, h4⟩ := wipeE_get (fun z => by cases z) h1
  rw [wipe_out h4] at h2
  exact ⟨i, d, h3, h2⟩
theorem EnvW.wipe {s : τ} {G H : Hp} {σ : St} {ρ : Env} (x : EnvW Ω s G H σ ρ) (vs : List Nat) : EnvW Ω s G H (L2.wipe σ vs) (wipeE ρ vs) := ⟨x.x.wipe vs, x.i, x.g, fun a z w => x.o a z (own_wipe w)⟩
/-- from here on so many more may come -/
theorem lc_evW (vs : List Nat) (hi : ItWS Ω wi ψ) : OwWS Ω (tLc wi (cTg vs θ) (cTeW Ω χ) (cPuW Ω φ) vs) (lcW vs ψ θ χ φ) := fun ρ s R hh G H σ x Q k => by
  refine hi ρ s _ hh G H σ x _ fun ds s1 J G1 H1 Γ Y q f1 wk hΓ hY => fun Dl nD => ?_
  obtain ⟨hlen, q⟩ := q
  have xa := x.mono f1
  have x1 := xa.wipe vs
  have fN : FrW Ω s1 G1 H1 s1 G1 (upd H1 Dl (.lst [])) := .of xa (.tmp f1.gh nD)
  refine lc_it wk (fun i H' => ∃ G' s' acc us, FrW Ω s1 G1 H1 s' G' H' ∧ G' Dl = none ∧ ¬ Ω.F s' Dl ∧ H' Dl = some (.lst us) ∧ Reps G' acc us ∧ acc.length ≤ i ∧ compW θ χ φ (ds.drop i) (wipeE ρ vs) s' fun zs s2 => R (.seq true (acc ++ zs)) s2)
    ⟨G1, s1, [], [], fN, f1.gh.back nD, (fun z => Ω.has s1 H1 Dl xa.i z nD), upd_same, .nil, Nat.le_refl _, by rw [List.drop_zero]; exact q⟩ (fun i H' _ ⟨G', s', _, _, f', _⟩ => hΓ H' (f'.g.trans f'.gh)) ?_ ?_
  · rintro i y H' H'' hi' ⟨G', s', acc, us, f', nG, nF, hD, ra, hl, hc⟩ yy
    obtain ⟨d, G'', h1, f2, r2⟩ := hY i H' y H'' G' hi' f'.g f'.gh yy
    have hd : ds.drop i = d :: ds.drop (i + 1) := by
      rw [List.drop_eq_getElem_cons hi']
      congr 1
      rw [List.getElem?_eq_getElem hi'] at h1
      exact Option.some.inj h1
    rw [hd] at hc
    unfold compW at hc
    obtain ⟨ρ1, e3, hc⟩ := hc
    have x' := x1.mono f'
    have f2w : FrW Ω s' G' H' s' G'' H'' := .of x' f2
    have f12 := f'.trans f2w
    have nG2 : G'' Dl = none := f2w.nw _ (by rw [hD]; exact fun z => by cases z) nG
    have hD2 := f2w.h _ _ hD nF
    refine ⟨wipeE ρ vs, ρ1, d, G'', e3, (x'.mono f2w).x, r2, fun σ2 x2 o2 w2 => ⟨by rw [w2, wipe_wipe fun _ z => z], ?_⟩⟩
    have x2' : EnvW Ω s' G'' H'' σ2 ρ1 := ⟨x2, (x'.mono f2w).i, (x'.mono f2w).g, fun a z w => (x'.mono f2w).o a z (o2 a w)⟩
    refine ⟨ρ1, s', _, G'', hc, x2', fun b s2 G3 H3 hc f3 => ?_⟩
    have nG3 : G3 Dl = none := f3.nw _ (by rw [hD2]; exact fun z => by cases z) nG2
    have hD3 := f3.h _ _ hD2 nF
    have nF3 : ¬ Ω.F s2 Dl := fun z => by
      rcases f3.fp Dl z with w | w
      · exact nF w
      · rw [hD2] at w; cases w
    cases b with
    | true =>
      dsimp only
      rw [if_pos rfl] at hc ⊢
      refine ⟨ρ1, s2, _, G3, hc, x2'.mono f3, fun z v s3 G4 H4 hc f4 r4 => ?_⟩
      have nG4 : G4 Dl = none := f4.nw _ (by rw [hD3]; exact fun z => by cases z) nG3
      have hD4 := f4.h _ _ hD3 nF3
      have nF4 : ¬ Ω.F s3 Dl := fun z => by
        rcases f4.fp Dl z with w | w
        · exact nF3 w
        · rw [hD3] at w; cases w
      have f14 := f12.trans (f3.trans f4)
      have ra4 := ra.mono (f2.g.trans (f3.g.trans f4.g))
      refine ⟨us, hD4, ?_, G4, s3, acc ++ [z], us ++ [v], ⟨f14.g, fun a o q => ?_, fun a o q n => ?_, f14.nw, ?_, f14.fp, fun a z => ?_, f14.out⟩, nG4, nF4, upd_same, ra4.app (.cons r4 .nil), by rw [List.length_append, List.length_singleton]; omega, ?_⟩
      · rw [ra.len, sizeLine_eq]; have : Lim = 5000 := rfl; omega
      · have : a ≠ Dl := fun e => by rw [e, nG4] at q; cases q
        rw [upd_ne this]; exact f14.gh _ _ q
      · have : a ≠ Dl := ne_of_none q nD
        rw [upd_ne this]; exact f14.h _ _ q n
      · refine Ω.ext s3 H4 _ f14.i fun a o z q => ?_
        have : a ≠ Dl := fun w => nF4 (w ▸ z)
        rw [upd_ne this]; exact q
      · by_cases q : a = Dl
        · rw [q, upd_same]; exact fun z => nomatch z
        · rw [upd_ne q]; exact f14.kp a z
      · have : (fun zs s2 => R (.seq true (acc ++ [z] ++ zs)) s2) = fun zs s2 => R (.seq true (acc ++ (z :: zs))) s2 := by
          funext zs s2; rw [List.append_assoc]; rfl
        rw [this]
        exact hc
    | false =>
      dsimp only
      rw [if_neg (by decide)] at hc ⊢
      exact ⟨G3, s2, acc, us, f12.trans f3, nG3, nF3, hD3, ra.mono (f2.g.trans f3.g), by omega, hc⟩
  · rintro H' ⟨G', s', acc, us, f', nG, nF, hD, ra, hl, hc⟩
    rw [List.drop_length] at hc
    have hc : R (.seq true (acc ++ [])) s' := hc
    rw [List.append_nil] at hc
    exact k _ Dl _ s' G' H' hc (f1.trans f') (f1.back nD) nG nF hD ⟨us, rfl, by omega, ra⟩
structure LcW (Ω : Om τ) (X : Cx) (tg iter elt : Expr) (ifs : List Expr) (scope : Scope) (wi : TI) (own : List (Str × Nat)) (ψ : WF τ (List D)) (θ : D → Env → Option Env) (χ : WF τ Bool) (φ : WF τ D) : Prop where
  it : ItW Ω X tg iter wi ψ
  ok : BlkOk X.N X.env.scope scope own
  pg : ∀ (s : Shared) (H : Hp) (C : Addr) (cl : List (Str × Addr)) (fp : List Addr), PG (X.blk s H scope (compEnvC scope cl C X.env) fp) tg (cTg (own.map (·.2)) θ)
  pt : ∀ (s : Shared) (H : Hp) (C : Addr) (cl : List (Str × Addr)) (fp : List Addr), PTs (X.blk s H scope (compEnvC scope cl C X.env) fp) ifs (cTeW Ω χ)
  pe : ∀ (s : Shared) (H : Hp) (C : Addr) (cl : List (Str × Addr)) (fp : List Addr), PE (X.blk s H scope (compEnvC scope cl C X.env) fp) elt (cPuW Ω φ)
  sc : ∀ x, foldedSetIterable iter X.env x = pure x
theorem LcW.ow {elt iter : Expr} {ifs : List Expr} {scope : Scope} {own : List (Str × Nat)} (h : LcW Ω X tg iter elt ifs scope wi own ψ θ χ φ) (hc : X.calm = true) (hN : X.N.Nodup) :
    OwW Ω X (.ListComp elt [⟨tg, iter, ifs, 0⟩] scope pos) (tLc wi (cTg (own.map (·.2)) θ) (cTeW Ω χ) (cPuW Ω φ) (own.map (·.2))) (lcW (own.map (·.2)) ψ θ χ φ) :=
  ⟨pe_lc hc hN h.it.pi h.ok h.pg h.pt h.pe h.sc, lc_evW _ h.it.ev⟩
/-- x = [..] -/
theorem LcW.set {elt iter : Expr} {ifs : List Expr} {scope : Scope} {own : List (Str × Nat)} {i : Nat} {y : Str} {py spos : Pos} {φ' : WF τ Sl} (h : LcW Ω X tg iter elt ifs scope wi own ψ θ χ φ) (hc : X.calm = true) (hN : X.N.Nodup) (hy : X.N[i]? = some y) (hyl : X.env.scope.names.lookup y = some .local)
    (hsw : swapsWith (.ListComp elt [⟨tg, iter, ifs, 0⟩] scope pos) (some (.Name y py)) spos.line X.env = pure true) (sv : OwW Ω X (.ListComp elt [⟨tg, iter, ifs, 0⟩] scope pos) (tLc wi (cTg (own.map (·.2)) θ) (cTeW Ω χ) (cPuW Ω φ) (own.map (·.2))) (lcW (own.map (·.2)) ψ θ χ φ) → SvW Ω X (.ListComp elt [⟨tg, iter, ifs, 0⟩] scope pos) (tLc wi (cTg (own.map (·.2)) θ) (cTeW Ω χ) (cPuW Ω φ) (own.map (·.2))) φ') :
    StW Ω W X (.Assign [.Name y py] (.ListComp elt [⟨tg, iter, ifs, 0⟩] scope pos) spos) (tAsg (tLc wi (cTg (own.map (·.2)) θ) (cTeW Ω χ) (cPuW Ω φ) (own.map (·.2))) (gName i)) (setW i φ') :=
  sw_set (sv (h.ow hc hN)) fun _ => ps_setLc hc hN hy hyl hsw h.it.pi h.ok h.pg h.pt h.pe h.sc
theorem lcw0 {elt iter : Expr} {scope : Scope} (own : List (Str × Nat)) {g : Shared → Hp → Addr → List (Str × Addr) → List Addr → TG} {te : Shared → Hp → Addr → List (Str × Addr) → List Addr → TE} (hi : ItW Ω X tg iter wi ψ) (ok : BlkOk X.N X.env.scope scope own)
    (hg : ∀ (s : Shared) (H : Hp) (C : Addr) (cl : List (Str × Addr)) (fp : List Addr), TgD (X.blk s H scope (compEnvC scope cl C X.env) fp) tg (g s H C cl fp) θ) (hw : ∀ s H C cl fp, TgW (g s H C cl fp) (own.map (·.2)))
    (he : ∀ (s : Shared) (H : Hp) (C : Addr) (cl : List (Str × Addr)) (fp : List Addr), PuW Ω (X.blk s H scope (compEnvC scope cl C X.env) fp) elt (te s H C cl fp) φ) (hs : ∀ x, foldedSetIterable iter X.env x = pure x := by intro _; rfl) : LcW Ω X tg iter elt [] scope wi own ψ θ yesW φ :=
  ⟨hi, ok, fun s H C cl fp => (hg s H C cl fp).c (hw s H C cl fp), fun s H C cl fp => ⟨fun pins s' σ H' Q I ⟨ρ, s, R, G, h1, h2, h3⟩ => pts_nil.run pins s' σ H' Q I (h3 true s G H' h1 (.refl h2))⟩, fun s H C cl fp => (he s H C cl fp).cc, hs⟩
theorem lcwI {elt iter c : Expr} {scope : Scope} (own : List (Str × Nat)) {g : Shared → Hp → Addr → List (Str × Addr) → List Addr → TG} {te : Shared → Hp → Addr → List (Str × Addr) → List Addr → TE} {tt : Shared → Hp → Addr → List (Str × Addr) → List Addr → TT} (hi : ItW Ω X tg iter wi ψ) (ok : BlkOk X.N X.env.scope scope own)
    (hg : ∀ (s : Shared) (H : Hp) (C : Addr) (cl : List (Str × Addr)) (fp : List Addr), TgD (X.blk s H scope (compEnvC scope cl C X.env) fp) tg (g s H C cl fp) θ) (hw : ∀ s H C cl fp, TgW (g s H C cl fp) (own.map (·.2)))
    (ht : ∀ (s : Shared) (H : Hp) (C : Addr) (cl : List (Str × Addr)) (fp : List Addr), TeW Ω (X.blk s H scope (compEnvC scope cl C X.env) fp) c (tt s H C cl fp) χ)
    (he : ∀ (s : Shared) (H : Hp) (C : Addr) (cl : List (Str × Addr)) (fp : List Addr), PuW Ω (X.blk s H scope (compEnvC scope cl C X.env) fp) elt (te s H C cl fp) φ) (hs : ∀ x, foldedSetIterable iter X.env x = pure x := by intro _; rfl) : LcW Ω X tg iter elt [c] scope wi own ψ θ χ φ :=
  ⟨hi, ok, fun s H C cl fp => (hg s H C cl fp).c (hw s H C cl fp), fun s H C cl fp => pts_one (ht s H C cl fp).cc, fun s H C cl fp => (he s H C cl fp).cc, hs⟩
/-! range with what is drawn -/
def rngW (φ : WF τ D) : WF τ (List D) := fun ρ s R => φ ρ s fun d s1 => ∃ n : Int, d = .leaf (.int n) ∧ n ≤ 1000 ∧ -1000 ≤ n ∧ R (rangeL n) s1
def seqsW (φ : WF τ D) : WF τ (List D) := fun ρ s R => φ ρ s fun d s1 => ∃ b ds, d = .seq b ds ∧ R ds s1
theorem itw_rng {p : Pos} (h : PuW Ω X e t φ) (hg : Gl X "range") (hm : X.mg "range" = none) (hs : starEach [e] X.env = [(false, eval e X.env)] := by rfl) : ItW Ω X tg (.Call (.Name "range" p) [e] [] pos) (iRng1 (tCons t tNil)) (rngW φ) := ⟨pi_range1 hg hm (pa_cons h.pe pa_nil hs) hs, fun ρ s R hh G H σ x Rr k => by
  refine h.ev ρ s _ hh G H σ x _ fun d v s1 G1 H1 ⟨n, e1, h1, h2, q⟩ f r => ?_
  subst e1
  obtain ⟨rfl, _⟩ := r.un_lf
  have hl : (rangeL n).length = n.toNat := by unfold rangeL; rw [List.length_map, List.length_range]
  refine ⟨n, rfl, by omega, by omega, k _ s1 _ G1 H1 (fun _ => True) _ q f (by rw [hl]; exact walk_range) (fun _ _ => trivial) fun i H' y H'' G' hi g gh yy => ?_⟩
  obtain ⟨e3, rfl⟩ := yy
  subst e3
  rw [hl] at hi
  refine ⟨.leaf (.int (i : Nat)), G', ?_, .refl gh, by show Rep G' (D.leaf (V.int (i : Nat))) (V.int (0 + (i : Nat))); rw [Int.zero_add]; exact .lf rfl⟩
  unfold rangeL
  rw [List.getElem?_map, List.getElem?_range hi]
  rfl⟩
/-! defs -/
theorem env0W {s : τ} {G H : Hp} (x : Ex G H) (i : Ω.I s H) (o : ∀ a, Ω.F s a → G a = none) {N : List Str} {ds : List D} {vs : List V} (r : Reps G ds vs) : EnvW Ω s G H (start N vs) (env0 N.length ds) ∧ ∀ a, ¬ Own (start N vs) (env0 N.length ds) a := by
  have nown : ∀ a, ¬ Own (start N vs) (env0 N.length ds) a := fun a ⟨i, es, h, _⟩ => env0_own h
  exact ⟨⟨env0_ok x r, i, o, fun a _ => nown a⟩, nown⟩
def runW (n : Nat) (Φ : WF τ Ou) : List D → τ → (D → τ → Prop) → Prop := fun ds s R => Φ (env0 n ds) s fun o s1 => match o with
  | .rt d => R d s1
  | .nx _ => R (.leaf .non) s1
  | _ => False
abbrev W0 : WX := fun _ _ _ _ => False
theorem ok_defW {ι : Type} {Ωs : ι → Om τ} {P : Program} {w : World} {K : PySem.W.Frag} {mg : Str → Option Value} {base : Heap} {x qual : Str} {st : Stmt} {f : Addr} {fd : FuncData} {N ps : List Str} {k : Nat} {Φs : ι → WF τ Ou} (F : Fun K x qual st f fd) (S : FnScope N ps (defScope st))
    (hb : ∀ (j : ι) (cdv : Value) (A : Around) (outer : List PySem.Env) (s : Shared) (H : Hp) (E : XK), Room k (A.deeper (envOfC qual (defScope st) s.heap.objs.size f cdv)) → ∃ t, SsW (Ωs j) W0 (cxOf CX0 P w K mg base N qual (defScope st) f cdv A outer s H E).nox (defBody st) t (Φs j)) :
    FnOk P w K mg base CX0 (k + 1) f fd ps (fun vs H Q E => ∃ j, spW (Ωs j) (fun ds s R => ds.length = ps.length ∧ runW N.length (Φs j) ds s R) vs H Q E) := by
  refine F.ok S (fun vs H Q E h => ?_) (fun cdv A outer s H vs Q E hr h => ?_)
  · obtain ⟨j, s, G, ds, R, x, i, o, r, ⟨e, _⟩, _⟩ := h
    rw [r.len, e]
  · obtain ⟨j, s, G, ds, R, x, i, o, r, ⟨_, e⟩, q⟩ := h
    obtain ⟨t, b⟩ := hb j cdv A outer _ H E hr
    obtain ⟨x0, nown⟩ := env0W x i o (N := N) r
    refine ⟨t, b.ps, b.ev _ s _ e G H _ x0 _ fun o1 s1 q1 => ?_⟩
    cases o1 with
    | nx ρ2 => exact fun σ2 G2 H2 x2 f2 => q _ .non s1 G2 H2 q1 ⟨f2.g, x2.x.gh, fun a o h n => f2.h a o h (nown a) n, fun a h1 h2 => f2.nw a h1 h2 (nown a), x2.i, fun a z => (f2.fp a z).elim .inl fun w => w.elim .inr fun u => absurd u (nown a), f2.kp, x2.g⟩ (.lf rfl)
    | rt d' => exact fun v G2 H2 f2 r2 => q _ v s1 G2 H2 q1 ⟨f2.g, f2.gh, fun a o h n => f2.h a o h (nown a) n, fun a h1 h2 => f2.nw a h1 h2 (nown a), f2.i, fun a z => (f2.fp a z).elim .inl fun w => w.elim .inr fun u => absurd u (nown a), f2.kp, f2.out⟩ r2
    | bk ρ2 => exact q1.elim
    | ct ρ2 => exact q1.elim
    | rz ρ2 c ns ds => exact q1.elim
end
end L2.Tr

/-! Trees: products, own things of any kind, dict(pairs), stores into own lists. -/
namespace L2.Tr
open PySem PySem.Spec PyProof.Rows
section
variable {τ β : Type} {Ω : Om τ} {X : Cx} {K : PySem.W.Frag} {W : WX} {e a b c o tg : Expr} {es : List Expr} {t ta tb to : TE} {tr : TA} {φ φa φb : Env → Option D} {φw φv : WF τ D} {pos : Pos}
/-! products, quotients -/
def mulD : D → D → Option D
  | .leaf (.int i), .leaf (.int j) => if -(2 ^ 64) < j ∧ j < 2 ^ 64 then some (.leaf (.int (i * j))) else none
  | _, _ => none
theorem r2_mul : R2D (rI CMul fun i j => .int (i * j)) mulD := fun d1 d2 z e G H v1 v2 x r1 r2 Q k => by
  unfold mulD at e
  split at e
  · rename_i i j
    split at e
    · rename_i hj
      cases e
      obtain ⟨rfl, _⟩ := r1.lf
      obtain ⟨rfl, _⟩ := r2.lf
      exact ⟨i, j, rfl, rfl, .inr hj, k _ G H (.refl x) (.lf rfl)⟩
    · cases e
  · cases e
def fdivD : D → D → Option D
  | .leaf (.int i), .leaf (.int j) => if 0 < j ∧ j < 1073741824 then some (.leaf (.int (i / j))) else none
  | _, _ => none
theorem r2_fdiv : R2D (rI CDiv fun i j => .int (i / j)) fdivD := fun d1 d2 z e G H v1 v2 x r1 r2 Q k => by
  unfold fdivD at e
  split at e
  · rename_i i j
    split at e
    · rename_i hj
      cases e
      obtain ⟨rfl, _⟩ := r1.lf
      obtain ⟨rfl, _⟩ := r2.lf
      exact ⟨i, j, rfl, rfl, hj, k _ G H (.refl x) (.lf rfl)⟩
    · cases e
  · cases e
theorem pu_mul {pos : Pos} (ha : ViD X a ta φa) (hb : ViD X b tb φb) : PuD X (.BinOp a .Mult b pos) (tOp (rI CMul fun i j => .int (i * j)) ta tb) (bin2 mulD φa φb) := pu_op op_mul r2_mul ha hb
/-! own things of any kind -/
def OtS (t : TE) (φ : Env → Option D) : Prop := ∀ ρ d, φ ρ = some d → ∀ (G H : Hp) (σ : St), EnvOk G H σ ρ → ∀ Q : VK, (∀ p o G2 H2, Fr G H G2 H2 → H p = none → G2 p = none → H2 p = some o → Top G2 d o → Q (.ref p) H2) → t σ H Q
structure OtD (X : Cx) (e : Expr) (t : TE) (φ : Env → Option D) : Prop where
  pe : PE X e t
  ev : OtS t φ
theorem OtD.w (h : OtD X e t φ) : OwW Ω X e t (lf φ) := ⟨h.pe, fun ρ s R ⟨d, e1, r⟩ G H σ x Q k => by
  refine h.ev ρ d e1 G H σ x.x Q fun p o G2 H2 f n1 n2 h2 q => k _ p _ s G2 H2 r (.of x f) n1 n2 (fun z => Ω.has s H p x.i z n1) h2 q⟩
theorem OtD.pu (h : OtD X e t φ) : PuD X e t φ := ⟨h.pe, fun ρ d ee G H σ x Q k => by
  refine h.ev ρ d ee G H σ x Q fun p o G2 H2 f n1 n2 h2 r => ?_
  have g2 : Ex (upd G2 p o) H2 := fun a u z => by
    by_cases q : a = p
    · rw [q, upd_same] at z; rw [q]; cases z; exact h2
    · rw [upd_ne q] at z; exact f.gh _ _ z
  refine k (.ref p) (upd G2 p o) H2 ⟨f.g.trans (Ex.new n2), g2, f.h, fun a h1 h2 => ?_⟩ (r.rep (Ex.new n2) upd_same)
  have : a ≠ p := fun z => h1 (z ▸ n1)
  rw [upd_ne this]
  exact f.nw a h1 h2⟩
/-- dict(d) -/
def R1T (r : List V → Hp → VK → Prop) (op : List D → Option D) : Prop := ∀ ds z, op ds = some z → ∀ (G H : Hp) (vs : List V), Ex G H → Views G H ds vs → ∀ Q : VK, (∀ p o G2 H2, Fr G H G2 H2 → H p = none → G2 p = none → H2 p = some o → Top G2 z o → Q (.ref p) H2) → r vs H Q
theorem r1_dctT : R1T (fun xs H Q => ∃ (a : Addr) (kvs : List (Key × V)), xs = [.ref a] ∧ Rd H a (.dK kvs) ∧ ∀ p, H p = none → Q (.ref p) (upd H p (.dK kvs))) dctD := fun ds z e G H vs x r1 Q k => by
  unfold dctD at e
  split at e
  · rename_i ks ds
    cases e
    obtain ⟨v, rfl, r⟩ := views1 r1
    obtain ⟨a, us, rfl, h1, l0, l1, q⟩ := r.dct x
    exact ⟨a, _, rfl, Rd.of h1, fun p np => k p _ G _ (.tmp x np) np (x.back np) upd_same ⟨us, rfl, l0, l1, q⟩⟩
  · cases e
theorem ot_cty {x T : _} {p : Pos} {r : List V → Hp → VK → Prop} {op : List D → Option D} {ψ : Env → Option (List D)} (hc : CallR X (.type T) r) (hd : R1T r op) (hg : Gl X x) (hm : X.mg x = none) (hv : bootBuiltins x = some (.type T)) (ha : AvD X (e :: es) tr ψ) (hn : x ≠ "__name__" := by decide) (hdb : (x == ("__debug__" : Str)) = false := by decide)
    (he : starEach (e :: es) X.env = (false, eval e X.env) :: starEach es X.env := by rfl) (hpl : (backTo pos (starEach es X.env)).any (·.1) = false := by rfl) : OtD X (.Call (.Name x p) (e :: es) [] pos) (tCB r tr) (app1 op ψ) := ⟨pe_callTy hc hg hm hv ha.pa hn hdb he hpl, fun ρ d ee G H σ x Q k => by
  obtain ⟨ds, e1, e2⟩ := Option.bind_eq_some_iff.mp ee
  exact ha.ev ρ ds e1 G H σ x _ fun vs G1 H1 f1 r1 => hd ds d e2 G1 H1 vs f1.gh r1 Q fun p o G2 H2 f2 n1 n2 h2 r2 => k p o G2 H2 (f1.trans f2) (f1.ne n1) n2 h2 r2⟩
/-- dict([(k, v), ..]), unlike keys -/
def pairD : D → Option (Key × D)
  | .seq false [k, v] => (keyD k).map fun y => (y, v)
  | _ => none
def pairsD : List D → Option (List (Key × D))
  | [] => some []
  | d :: r => (pairD d).bind fun p => (pairsD r).map (p :: ·)
def dctP : List D → Option D
  | [.seq true ds] => (pairsD ds).bind fun ps => if (ps.map (·.1)).Nodup then some (.dct (ps.map (·.1)) (ps.map (·.2))) else none
  | _ => none
theorem pairs_rep {G H : Hp} (x : Ex G H) : ∀ {ds : List D} {ps : List (Key × D)} {us : List V}, pairsD ds = some ps → Reps G ds us → ∃ (as : List Addr) (vs : List V), us = as.map V.ref ∧ Paired (fun p kv => SqT K H p [kV kv.1, kv.2]) as ((ps.map (·.1)).zip vs) ∧ Reps G (ps.map (·.2)) vs
  | [], ps, us, h, r => by cases h; rw [r.un0]; exact ⟨[], [], rfl, .nil, .nil⟩
  | d :: ds, ps, us, h, r => by
    obtain ⟨p, h1, h2⟩ := Option.bind_eq_some_iff.mp h
    obtain ⟨r', h3, rfl⟩ := Option.map_eq_some_iff.mp h2
    obtain ⟨u, us1, rfl, q, tl⟩ := r.un
    obtain ⟨as, vs, rfl, g1, g2⟩ := pairs_rep x h3 tl
    unfold pairD at h1
    split at h1
    · rename_i k v
      obtain ⟨y, h4, rfl⟩ := Option.map_eq_some_iff.mp h1
      obtain ⟨a, ws, rfl, a1, _, a2⟩ := q.un_sq
      obtain ⟨w1, ws1, rfl, b1, b2⟩ := a2.un
      obtain ⟨w2, ws2, rfl, c1, c2⟩ := b2.un
      rw [c2.un0] at a1
      obtain rfl := keyD_kV (G := G) (H := H) h4 (.inl b1)
      exact ⟨a :: as, w2 :: vs, rfl, .cons (SqT.of (x _ _ a1)) g1, .cons c1 g2⟩
    · cases h1
theorem r1_dctP : R1D (fun xs H Q => ∃ (a : Addr) (ps : List Addr) (kvs : List (Key × V)), xs = [.ref a] ∧ SqL K H a (ps.map V.ref) ∧ Paired (fun p kv => SqT K H p [kV kv.1, kv.2]) ps kvs ∧ ∀ p, H p = none → Q (.ref p) (upd H p (.dK (mergeK [] kvs)))) dctP := fun ds z e G H vs x r1 Q k => by
  unfold dctP at e
  split at e
  · rename_i ds
    obtain ⟨ps, h1, h2⟩ := Option.bind_eq_some_iff.mp e
    split at h2
    · rename_i hn
      cases h2
      obtain ⟨v, rfl, r⟩ := views1 r1
      obtain ⟨a, us, rfl, h3, l1, q⟩ := r.seq x
      obtain ⟨as, ws, rfl, g1, g2⟩ := pairs_rep (K := K) x h1 q
      refine ⟨a, as, _, rfl, SqL.of h3, g1, fun p np => ?_⟩
      have hl : (ps.map (·.1)).length = ws.length := by rw [g2.len, List.length_map, List.length_map]
      have e : mergeK [] ((ps.map (·.1)).zip ws) = (ps.map (·.1)).zip ws := merge_zip (acc := []) (as := []) (by rw [List.nil_append]; exact hn) rfl hl
      rw [e]
      refine k (.ref p) _ _ (.new x np) (.dc upd_same (by rw [List.length_map, List.length_map]) ?_ (g2.mono (Ex.new (x.back np))))
      have := q.len
      rw [← g2.len, ← hl]
      have h5 : ∀ {ds : List D} {ps : List (Key × D)}, pairsD ds = some ps → ps.length = ds.length := fun {ds} => by
        induction ds with
        | nil => intro ps h; cases h; rfl
        | cons d ds ih =>
          intro ps h
          obtain ⟨p, z1, z2⟩ := Option.bind_eq_some_iff.mp h
          obtain ⟨r', z3, rfl⟩ := Option.map_eq_some_iff.mp z2
          rw [List.length_cons, List.length_cons, ih z3]
      rw [List.length_map, h5 h1]
      exact l1
    · cases h2
  · cases e
/-! xs[i] = e, xs an own list -/
def lputW (i : Nat) (j : Int) (φ : WF τ D) : WF τ Ou := fun ρ s R => match ρ[i]? with
  | some (.ow (.seq true xs)) => φ ρ s fun d s1 => ∃ n, ixN xs.length j = some n ∧ R (.nx (ρ.set i (Sl.ow (.seq true (xs.set n d))))) s1
  | _ => False
theorem sw_lput {i : Nat} {j : Int} (h : PuW Ω X e t φw) (hp : PE X e t → PS X (.Assign [tg] e pos) (tAsg t (gSub (tVar i) (tC (.int j)) rSetL))) : StW Ω W X (.Assign [tg] e pos) (tAsg t (gSub (tVar i) (tC (.int j)) rSetL)) (lputW i j φw) := ⟨hp h.pe, fun ρ s R hh G H σ x De k => by
  unfold lputW at hh
  split at hh
  · rename_i xs h1
    obtain ⟨p, ob, h2, h3, h4, us, rfl, h5, h6⟩ := x.x.ow i _ h1
    refine h.ev ρ s _ hh G H σ x _ fun d v s1 G1 H1 ⟨n, e1, q⟩ f r => ?_
    have x1 := x.mono f
    have hp1 := f.h _ _ h4 (x.no ⟨i, _, h1, h2⟩)
    refine ⟨_, h2, p, us, j, n, rfl, rfl, hp1, by rw [h6.len]; exact e1, ?_⟩
    have gg := grow_okW x1 (fun _ _ _ z => by cases z) (ys := .seq true (xs.set n d)) (ob := .lst (us.set n v)) h1 h2 ⟨_, rfl, by rw [List.length_set]; exact h5, Reps.st r n (h6.mono f.g)⟩
    exact k _ s1 q σ G1 _ gg.1 ((FrSW.of x f).trans x x1 gg.2)
  · exact hh.elim⟩
/-! o.append(e), o a new list that nothing keeps -/
def appTW (φv φw : WF τ D) : WF τ Ou := fun ρ s R => φv ρ s fun d1 s1 => (∃ xs, d1 = .seq true xs) ∧ φw ρ s1 fun _ s2 => R (.nx ρ) s2
theorem sw_appT {apos cpos : Pos} (ho : OwW Ω X o to φv) (h : PuW Ω X e t φw) (hp : PE X o to → PE X e t → PS X (.Expr (.Call (.Attribute o "append" apos) [e] [] cpos) pos) (tDrop (tBM X.K "list" rAppend to (tCons t tNil)))) :
    StW Ω W X (.Expr (.Call (.Attribute o "append" apos) [e] [] cpos) pos) (tDrop (tBM X.K "list" rAppend to (tCons t tNil))) (appTW φv φw) := ⟨hp ho.pe h.pe, fun ρ s R hh G H σ x De k => by
  refine ho.ev ρ s _ hh G H σ x _ fun d1 p ob s1 G1 H1 q1 f1 n1 n2 n3 hp1 top => ?_
  obtain ⟨⟨xs, rfl⟩, q1⟩ := q1
  obtain ⟨us, rfl, hl, r⟩ := top
  have x1 := x.mono f1
  refine ⟨.inl ⟨rfl, _, SqL.of hp1⟩, h.ev ρ s1 _ q1 G1 H1 σ x1 _ fun d v s2 G2 H2 q2 f2 r2 => ?_⟩
  have hp2 := f2.h _ _ hp1 n3
  have n4 : G2 p = none := f2.nw p (by rw [hp1]; exact fun z => nomatch z) n2
  have n5 : ¬ Ω.F s2 p := fun z => by
    rcases f2.fp p z with w | w
    · exact n3 w
    · rw [hp1] at w; cases w
  have hl2 : us.length ≤ Lim := by rw [r.len]; exact hl
  have f := f1.trans f2
  refine ⟨p, us, v, rfl, rfl, hp2, by rw [sizeLine_eq]; have : Lim = 5000 := rfl; omega, ?_⟩
  have fu : FrW Ω s G H s2 G2 (upd H2 p (.lst (us ++ [v]))) := by
    refine ⟨f.g, fun a o z => ?_, fun a o z n => ?_, f.nw, Ω.ext s2 H2 _ f.i fun a o z w => ?_, f.fp, fun a z => ?_, f.out⟩
    · have : a ≠ p := fun w => by rw [w, n4] at z; cases z
      rw [upd_ne this]; exact f.gh _ _ z
    · have : a ≠ p := fun w => by rw [w, n1] at z; cases z
      rw [upd_ne this]; exact f.h _ _ z n
    · have : a ≠ p := fun u => n5 (u ▸ z)
      rw [upd_ne this]; exact w
    · by_cases w : a = p
      · rw [w, upd_same]; exact fun z => nomatch z
      · rw [upd_ne w]; exact f.kp a z
  exact k _ s2 q2 σ G2 _ (x.mono fu) (.of x fu)⟩
/-! methods that hand back a thing of their own -/
def spOt (f : List D → Option D) : Sp := fun vs H Q _ => ∃ (G : Hp) (ds : List D) (d : D), Ex G H ∧ Reps G ds vs ∧ f ds = some d ∧
  ∀ p o G2 H2, Fr G H G2 H2 → H p = none → G2 p = none → H2 p = some o → Top G2 d o → Q (.ref p) H2
structure MthT (P : Program) (w : World) (K : PySem.W.Frag) (mg : Str → Option Value) (base : Heap) (C : Addr) (m : Str) (k : Nat) (f : List D → Option D) : Prop where
  ex : ∃ (a : Addr) (fd : FuncData) (ps : List Str), Cls K C ∧ Meth K C m a ∧ FnOk P w K mg base CX0 k a fd ps (spOt f) ∧ Binds K fd ps []
theorem ot_meth0 {C0 : Addr} {m : Str} {k : Nat} {f : List D → Option D} {apos : Pos} {pl : Sem Bool} (M : MthT X.prog X.w X.K X.mg X.base C0 m k f) (hr : Room k X.A) (ho : PuD X o t φ)
    (ht : eval (.Call (.Attribute o m apos) [] [] pos) X.env = (do
      let ov ← eval o X.env
      standAt apos.atName
      let (f, first) ← holding [ov] (getMethod ov m pl)
      callWith pos f first (backTo pos (starEach [] X.env)) (backToKw pos (keywordEach [] X.env))) := by rfl) :
    OtD X (.Call (.Attribute o m apos) [] [] pos) (tMeth C0 m (spOt f) [] E0 t tNil) (metF C0 m f φ nilD) := by
  obtain ⟨a, fd, ps, c1, c2, c3, c4⟩ := M.ex
  refine ⟨pe_meth0 ho.pe c1 c2 c3 hr c4 .nil pass0 ht, fun ρ z ee G H σ x Q k => ?_⟩
  obtain ⟨d1, e1, e3⟩ := Option.bind_eq_some_iff.mp ee
  obtain ⟨xs, e4, e5⟩ := Option.bind_eq_some_iff.mp e3
  cases e4
  refine ho.ev ρ d1 e1 G H σ x _ fun v G1 H1 f1 r1 => ?_
  unfold metD at e5
  split at e5
  · split at e5
    · rename_i C ns ds hC
      obtain ⟨rfl, hm⟩ := hC
      obtain ⟨p, dx, us, rfl, h1, h2, h3⟩ := r1.un_obj
      refine ⟨p, dx, _, rfl, f1.gh _ _ h1, lookup_off hm, G1, [.obj C ns ds], z, f1.gh, .cons r1 .nil, e5, fun q o G2 H2 f2 n1 n2 hq top => k q o G2 H2 (f1.trans f2) (f1.ne n1) n2 hq top⟩
    · cases e5
  · cases e5
theorem ok_retT {P : Program} {w : World} {K : PySem.W.Frag} {mg : Str → Option Value} {base : Heap} {x qual : Str} {st : Stmt} {f : Addr} {fd : FuncData} {N ps : List Str} {k : Nat} {ψ : Env → Option D} {e : Expr} {pos : Pos} (F : Fun K x qual st f fd) (S : FnScope N ps (defScope st)) (hB : defBody st = [.Return (some e) pos])
    (hb : ∀ (cdv : Value) (A : Around) (outer : List PySem.Env) (s : Shared) (H : Hp) (E : XK), Room k (A.deeper (envOfC qual (defScope st) s.heap.objs.size f cdv)) → ∃ t, OtD (cxOf CX0 P w K mg base N qual (defScope st) f cdv A outer s H E).nox e t ψ) :
    FnOk P w K mg base CX0 (k + 1) f fd ps (spOt fun ds => if ds.length = ps.length then ψ (env0 N.length ds) else none) := by
  refine F.ok S (fun vs H Q E h => ?_) (fun cdv A outer s H vs Q E hr h => ?_)
  · obtain ⟨G, ds, d, x, r, e, _⟩ := h
    have e : (if ds.length = ps.length then ψ (env0 N.length ds) else none) = some d := e
    split at e
    · rename_i hl; rw [r.len, hl]
    · cases e
  · obtain ⟨G, ds, d, x, r, e, q⟩ := h
    have e : (if ds.length = ps.length then ψ (env0 N.length ds) else none) = some d := e
    obtain ⟨t, b⟩ := hb cdv A outer s H E hr
    refine ⟨tRet t, by rw [hB]; exact pss_one (ps_ret b.pe), ?_⟩
    split at e
    · exact b.ev _ d e G H _ (env0_ok x (N := N) r) _ fun p us G2 H2 f n1 n2 h r => q p us G2 H2 f n1 n2 h r
    · cases e
end
end L2.Tr

/-! Trees: own things frozen ahead of a statement, x = d.pop(k). -/
namespace L2.Tr
open PySem PySem.Spec PyProof.Rows
section
variable {τ β : Type} {Ω : Om τ} {X : Cx} {W : WX} {e o : Expr} {t : TE} {φ : WF τ D} {Φ : WF τ Ou} {st : Stmt} {ts : TS} {pos : Pos}
def frzW (j : Nat) (Φ : WF τ Ou) : WF τ Ou := fun ρ s R => ∃ ρ2, frzE j ρ = some ρ2 ∧ Φ ρ2 s R
theorem sw_frz (j : Nat) (h : StW Ω W X st ts Φ) : StW Ω W X st ts (frzW j Φ) := ⟨h.ps, fun ρ s R ⟨ρ2, e1, hh⟩ G H σ x De k => by
  obtain ⟨G2, x2, f⟩ := frz_ok x.x e1
  obtain ⟨f', y⟩ := FrSW.lift x x2 f
  exact h.ev ρ2 s R hh G2 H σ y De fun o s2 r => end_frS x y f' (k o s2 r)⟩
def dropL : List Key → List D → Key → List Key × List D
  | k :: ks, d :: ds, x => if k = x then dropL ks ds x else (k :: (dropL ks ds x).1, d :: (dropL ks ds x).2)
  | _, _, _ => ([], [])
theorem dropL_rep {G : Hp} {k : Key} : ∀ {ks : List Key} {ds : List D} {us : List V}, Reps G ds us → ks.length = ds.length →
    ∃ us', dropK (ks.zip us) k = (dropL ks ds k).1.zip us' ∧ (dropL ks ds k).1.length = (dropL ks ds k).2.length ∧ (dropL ks ds k).2.length ≤ ds.length ∧ Reps G (dropL ks ds k).2 us'
  | [], [], us, h, _ => ⟨[], by rw [h.un0]; rfl, rfl, Nat.le_refl _, .nil⟩
  | [], d :: ds, us, h, hl => by simp at hl
  | x :: ks, [], us, h, hl => by simp at hl
  | x :: ks, d :: ds, us, h, hl => by
    obtain ⟨u, us1, rfl, q, tl⟩ := h.un
    obtain ⟨us', h1, h2, h3, h4⟩ := dropL_rep (k := k) tl (by simpa using hl)
    unfold dropK at h1 ⊢
    rw [List.zip_cons_cons, List.filter_cons, dropL]
    by_cases e : x = k
    · rw [if_neg (by simp [e]), if_pos e]
      exact ⟨us', h1, h2, by rw [List.length_cons]; omega, h4⟩
    · rw [if_pos (by simp [e]), if_neg e, h1]
      exact ⟨u :: us', rfl, by rw [List.length_cons, List.length_cons, h2], by rw [List.length_cons, List.length_cons]; omega, .cons q h4⟩
/-- x = d.pop(k), d an own dict -/
def dpopW (i j : Nat) (φ : WF τ D) : WF τ Ou := fun ρ s R => match ρ[i]? with
  | some (.ow (.dct ks ds)) => φ ρ s fun y s1 => ∃ k d, keyD y = some k ∧ getK ks ds k = some d ∧ R (.nx ((ρ.set i (Sl.ow (.dct (dropL ks ds k).1 (dropL ks ds k).2))).set j (.pu d))) s1
  | _ => False
theorem sw_dpop {i j : Nat} {x : Str} {pos' apos cpos : Pos} (hij : i ≠ j) (h : PuW Ω X e t φ) (hp : PE X e t → PS X (.Assign [.Name x pos'] (.Call (.Attribute o "pop" apos) [e] [] cpos) pos) (tAsg (tDPop1 (tVar i) t) (gName j))) :
    StW Ω W X (.Assign [.Name x pos'] (.Call (.Attribute o "pop" apos) [e] [] cpos) pos) (tAsg (tDPop1 (tVar i) t) (gName j)) (dpopW i j φ) := ⟨hp h.pe, fun ρ s R hh G H σ x De k => by
  unfold dpopW at hh
  split at hh
  · rename_i ks ds h1
    obtain ⟨p, ob, h2, h3, h4, us, rfl, h5, h6, h7⟩ := x.x.ow i _ h1
    refine ⟨_, h2, p, rfl, .inl ⟨_, .inl h4⟩, h.ev ρ s _ hh G H σ x _ fun y v s1 G1 H1 q f r => ?_⟩
    obtain ⟨kk, d, e4, e5, q⟩ := q
    have x1 := x.mono f
    obtain rfl := keyD_kV (G := G1) (H := H1) e4 (.inl r)
    obtain ⟨u, e6, r6⟩ := getK_rep (h7.mono f.g) e5
    have hp1 := f.h _ _ h4 (x.no ⟨i, _, h1, h2⟩)
    obtain ⟨us', g1, g2, g3, g4⟩ := dropL_rep (k := kk) (h7.mono f.g) h5
    refine ⟨_, kk, u, hp1, rfl, e6, ?_⟩
    rw [g1]
    have gg := grow_okW x1 (fun _ _ _ z => by cases z) (ys := .dct (dropL ks ds kk).1 (dropL ks ds kk).2) (ob := .dK ((dropL ks ds kk).1.zip us')) h1 h2 ⟨us', rfl, g2, by omega, g4⟩
    obtain ⟨y3, o3, b3⟩ := store_ok (sl := .pu d) gg.1 (own_ne gg.1) r6 j
    refine k _ s1 q _ G1 _ y3 ((FrSW.of x f).trans x x1 (gg.2.trans x1 gg.1 ⟨Ex.refl _, fun a o h _ _ => h, fun a _ h _ => h, fun a z => .inl (own_setP gg.1.x.len z), b3, fun a z => .inl z, fun a z => Ω.has _ _ a gg.1.i z⟩))
  · exact hh.elim⟩
end
end L2.Tr

/-! Trees: dict(pairs) as a thing of its own; C(e, ..) with one default. -/
namespace L2.Tr
open PySem PySem.Spec PyProof.Rows
section
variable {τ β : Type} {Ω : Om τ} {X : Cx} {K : PySem.W.Frag} {W : WX} {e : Expr} {es : List Expr} {t : TE} {tr : TA} {ψ : WF τ (List D)} {ψd : Env → Option (List D)} {pos : Pos}
theorem r1_dctPT : R1T (fun xs H Q => ∃ (a : Addr) (ps : List Addr) (kvs : List (Key × V)), xs = [.ref a] ∧ SqL K H a (ps.map V.ref) ∧ Paired (fun p kv => SqT K H p [kV kv.1, kv.2]) ps kvs ∧ ∀ p, H p = none → Q (.ref p) (upd H p (.dK (mergeK [] kvs)))) dctP := fun ds z e G H vs x r1 Q k => by
  unfold dctP at e
  split at e
  · rename_i ds
    obtain ⟨ps, h1, h2⟩ := Option.bind_eq_some_iff.mp e
    split at h2
    · rename_i hn
      cases h2
      obtain ⟨v, rfl, r⟩ := views1 r1
      obtain ⟨a, us, rfl, h3, l1, q⟩ := r.seq x
      obtain ⟨as, ws, rfl, g1, g2⟩ := pairs_rep (K := K) x h1 q
      refine ⟨a, as, _, rfl, SqL.of h3, g1, fun p np => ?_⟩
      have hl : (ps.map (·.1)).length = ws.length := by rw [g2.len, List.length_map, List.length_map]
      have e : mergeK [] ((ps.map (·.1)).zip ws) = (ps.map (·.1)).zip ws := merge_zip (acc := []) (as := []) (by rw [List.nil_append]; exact hn) rfl hl
      rw [e]
      refine k p _ G _ (.tmp x np) np (x.back np) upd_same ⟨ws, rfl, by rw [List.length_map, List.length_map], ?_, g2⟩
      have := q.len
      rw [← g2.len, ← hl]
      have h5 : ∀ {ds : List D} {ps : List (Key × D)}, pairsD ds = some ps → ps.length = ds.length := fun {ds} => by
        induction ds with
        | nil => intro ps h; cases h; rfl
        | cons d ds ih =>
          intro ps h
          obtain ⟨p, z1, z2⟩ := Option.bind_eq_some_iff.mp h
          obtain ⟨r', z3, rfl⟩ := Option.map_eq_some_iff.mp z2
          rw [List.length_cons, List.length_cons, ih z3]
      rw [List.length_map, h5 h1]
      exact l1
    · cases h2
  · cases e
theorem oww_ctyT {x T : _} {p : Pos} {r : List V → Hp → VK → Prop} {op : List D → Option D} (hc : CallR X (.type T) r) (hd : R1T r op) (hg : Gl X x) (hm : X.mg x = none) (hv : bootBuiltins x = some (.type T)) (ha : ArW Ω X (e :: es) tr ψ) (hn : x ≠ "__name__" := by decide) (hdb : (x == ("__debug__" : Str)) = false := by decide)
    (he : starEach (e :: es) X.env = (false, eval e X.env) :: starEach es X.env := by rfl) (hpl : (backTo pos (starEach es X.env)).any (·.1) = false := by rfl) : OwW Ω X (.Call (.Name x p) (e :: es) [] pos) (tCB r tr) (ap1W op ψ) := ⟨pe_callTy hc hg hm hv ha.pa hn hdb he hpl, fun ρ s R hh G H σ x Q k => by
  refine ha.ev ρ s _ hh G H σ x _ fun ds vs s1 G1 H1 ⟨z, ee, h1⟩ f1 r1 => ?_
  have x1 := x.mono f1
  exact hd ds z ee G1 H1 vs f1.gh (reps_views r1) Q fun q o G2 H2 f2 n1 n2 hp top => k _ q _ s1 G2 H2 h1 (f1.trans (.of x1 f2)) (f1.back n1) n2 (fun w => Ω.has s1 H1 q x1.i w n1) hp top⟩
def lstsW (φ : WF τ D) : WF τ (List D) := fun ρ s R => φ ρ s fun d s1 => ∃ ds, d = .seq true ds ∧ R ds s1
theorem itw_lst {tg : Expr} {φ : WF τ D} (h : PuW Ω X e t φ) : ItW Ω X tg e (iList X.K t) (lstsW φ) := ⟨pi_list h.pe, fun ρ s R hh G H σ x Rr k => by
  refine h.ev ρ s _ hh G H σ x _ fun d v s1 G1 H1 ⟨ds, e1, q⟩ f r => ?_
  subst e1
  obtain ⟨a, us, rfl, h1, h2, h3⟩ := r.un_sq
  refine ⟨a, rfl, ⟨us, SqL.of (f.gh _ _ h1)⟩, k _ s1 _ G1 H1 (fun H => SqL X.K H a us) _ q f (by rw [← h3.len]; exact walk_list) (fun H' g => SqL.of (g _ _ h1)) (yat_ok h3)⟩⟩
structure MkrD (P : Program) (w : World) (K : PySem.W.Frag) (mg : Str → Option Value) (base : Heap) (x : Str) (C : Addr) (k : Nat) (dvs : List V) (f : List D → Option (List Str × List D)) : Prop where
  ex : ∃ (a : Addr) (fd : FuncData) (ps : List Str) (ds : List Value), Mk K C a ∧ mg x = some (.ref C) ∧ FnOk P w K mg base CX0 k a fd ps (spI C f) ∧ Binds K fd ps ds ∧ L2.Vals dvs ds
theorem pu_makeD {x : Str} {C : Addr} {k : Nat} {dvs : List V} {f : List D → Option (List Str × List D)} {p : Pos} (h : MkrD X.prog X.w X.K X.mg X.base x C k dvs f) (hlf : ∀ v ∈ dvs, leafy v = true) (hr : Room (k + 1) X.A) (hg : Gl X x) (ha : ArD X (e :: es) tr ψd) (hdb : (x == ("__debug__" : Str)) = false := by decide)
    (he : starEach (e :: es) X.env = (false, eval e X.env) :: starEach es X.env := by rfl) (hpl : (backTo pos (starEach es X.env)).any (·.1) = false := by rfl) :
    PuD X (.Call (.Name x p) (e :: es) [] pos) (tMake C (spI C f) dvs E0 tr) (app1 (mkD C fun ds => f (ds ++ dvs.map D.leaf)) ψd) := by
  obtain ⟨a, fd, ps, dsv, M, h1, F, h3, h4⟩ := h.ex
  refine ⟨pe_make M F hr hg h1 h3 h4 pass0 ha.pa hdb he hpl, fun ρ d ee G H σ x Q k => ?_⟩
  obtain ⟨ds, e1, e2⟩ := Option.bind_eq_some_iff.mp ee
  obtain ⟨⟨ns, zs⟩, e3, rfl⟩ := Option.map_eq_some_iff.mp e2
  refine ha.ev ρ ds e1 G H σ x _ fun vs G1 H1 f1 r1 => fun y dx ny ndx nex => ?_
  have e5 : Ex H1 (upd (upd H1 dx (.own y)) y (.ins C dx [])) := (Ex.new ndx).trans (Ex.new (by rw [upd_ne (Ne.symm nex)]; exact ny))
  refine ⟨G1, ds ++ dvs.map D.leaf, y, dx, vs ++ dvs, ns, zs, rfl, f1.gh.back ny, upd_same, f1.gh.trans e5, r1.app (Reps.lfs hlf), e3, fun G2 H2 dx2 ws g1 g2 g3 g4 g5 g6 g7 g8 => ⟨rfl, ?_⟩⟩
  have e6 : Ex H1 H2 := fun c o z => g3 c o (e5 c o z) (ne_of_none z ny)
  refine k (.ref y) (upd G2 y (.ins C dx2 (ns.zip ws))) H2 (f1.trans ⟨g1.trans (Ex.new g5), fun c o z => ?_, e6, fun c z1 z2 => ?_⟩) (.ob upd_same g7 (g8.mono (Ex.new g5)))
  · by_cases q : c = y
    · rw [q, upd_same] at z; cases z; rw [q]; exact g6
    · rw [upd_ne q] at z; exact g2 _ _ z
  · obtain ⟨o, ho⟩ := Option.ne_none_iff_exists'.mp z1
    have hc : c ≠ y := fun q => z1 (q ▸ ny)
    rw [upd_ne hc]
    exact g4 c (by rw [e5 c o ho]; exact fun q => by cases q) z2 hc
end
end L2.Tr

/-! Trees beside something that changes: how a promise is shown, piece by piece. -/
namespace L2.Tr
open PySem PySem.Spec PyProof.Rows
section
variable {τ β : Type} {ρ : Env} {s : τ} {φ φa φb : WF τ D} {ζ ζ1 ζ2 : WF τ Sl} {χ ξ : WF τ Bool} {ψ : WF τ (List D)} {Φ Ψ : WF τ Ou} {θ : D → Env → Option Env}
theorem lf_i {β : Type} {φ : Env → Option β} {R : β → τ → Prop} {d : β} (h : φ ρ = some d) (k : R d s) : lf φ ρ s R := ⟨d, h, k⟩
theorem lfS_i {Φ : Env → Option Out} {R : Ou → τ → Prop} {o : Out} (h : Φ ρ = some o) (k : R o.w s) : lfS Φ ρ s R := ⟨o, h, k⟩
theorem seq_i {R : Ou → τ → Prop} (h : Φ ρ s fun o s1 => match o with
  | .nx ρ2 => Ψ ρ2 s1 R
  | o => R o s1) : seqW Φ Ψ ρ s R := h
theorem asg_i {R : Ou → τ → Prop} (h : φ ρ s fun d s1 => ∃ ρ2, θ d ρ = some ρ2 ∧ R (.nx ρ2) s1) : asgW φ θ ρ s R := h
theorem set_p {i : Nat} {R : Ou → τ → Prop} (h : φ ρ s fun d s1 => R (.nx (ρ.set i (.pu d))) s1) : setW i (svP φ) ρ s R := h
theorem set_o {i : Nat} {R : Ou → τ → Prop} (h : φ ρ s fun d s1 => isObj d = false ∧ R (.nx (ρ.set i (.ow d))) s1) : setW i (svO φ) ρ s R := h
theorem ret_i {R : Ou → τ → Prop} (h : φ ρ s fun d s1 => R (.rt d) s1) : retW φ ρ s R := h
theorem if_i {R : Ou → τ → Prop} (h : χ ρ s fun b s1 => if b = true then Φ ρ s1 R else Ψ ρ s1 R) : ifSW χ Φ Ψ ρ s R := h
theorem if_t {R : Ou → τ → Prop} {χ : Env → Option Bool} (h : χ ρ = some true) (k : Φ ρ s R) : ifSW (lf χ) Φ Ψ ρ s R := ⟨true, h, k⟩
theorem if_f {R : Ou → τ → Prop} {χ : Env → Option Bool} (h : χ ρ = some false) (k : Ψ ρ s R) : ifSW (lf χ) Φ Ψ ρ s R := ⟨false, h, k⟩
theorem call_i {f : List D → τ → (D → τ → Prop) → Prop} {R : D → τ → Prop} (h : ψ ρ s fun ds s1 => f ds s1 R) : callW f ψ ρ s R := h
theorem nil_i {R : List D → τ → Prop} (h : R [] s) : nilW ρ s R := h
theorem cons_i {φ : Env → Option D} {R : List D → τ → Prop} {d : D} (h : φ ρ = some d) (k : ψ ρ s fun xs s2 => R (d :: xs) s2) : consW (lf φ) ψ ρ s R := ⟨d, h, k⟩
theorem consW_i {R : List D → τ → Prop} (h : φ ρ s fun x s1 => ψ ρ s1 fun xs s2 => R (x :: xs) s2) : consW φ ψ ρ s R := h
theorem b2_i {β : Type} {op : D → D → Option β} {R : β → τ → Prop} (h : φa ρ s fun x s1 => φb ρ s1 fun y s2 => ∃ z, op x y = some z ∧ R z s2) : b2W op φa φb ρ s R := h
theorem as_i {R : Bool → τ → Prop} (h : φ ρ s fun d s1 => ∃ b, asB d = some b ∧ R b s1) : asW φ ρ s R := h
theorem and_i {R : Bool → τ → Prop} (h : χ ρ s fun k s1 => if k = true then ξ ρ s1 R else R false s1) : andW χ ξ ρ s R := h
theorem ap_i {β : Type} {op : List D → Option β} {R : β → τ → Prop} (h : ψ ρ s fun ds s1 => ∃ z, op ds = some z ∧ R z s1) : ap1W op ψ ρ s R := h
theorem tup_i {R : D → τ → Prop} (h : ψ ρ s fun ds s1 => ds.length ≤ Lim ∧ R (.seq false ds) s1) : tupW ψ ρ s R := h
theorem par2_i {i j : Nat} {R : Ou → τ → Prop} (h : ζ1 ρ s fun s1 t1 => ζ2 ρ t1 fun s2 t2 => R (.nx ((ρ.set i s1).set j s2)) t2) : par2W i j ζ1 ζ2 ρ s R := h
theorem svP_i {R : Sl → τ → Prop} (h : φ ρ s fun d s1 => R (.pu d) s1) : svP φ ρ s R := h
theorem svO_i {R : Sl → τ → Prop} (h : φ ρ s fun d s1 => isObj d = false ∧ R (.ow d) s1) : svO φ ρ s R := h
theorem for_i {R : Ou → τ → Prop} (h : ψ ρ s fun ds s1 => loopW θ Φ ds ρ s1 R) : forW ψ θ Φ ρ s R := h
theorem rng_i {R : List D → τ → Prop} (h : φ ρ s fun d s1 => ∃ n : Int, d = .leaf (.int n) ∧ n ≤ 1000 ∧ -1000 ≤ n ∧ R (rangeL n) s1) : rngW φ ρ s R := h
theorem frz_i {j : Nat} {d : D} {R : Ou → τ → Prop} (h : ρ[j]? = some (.ow d)) (k : Φ (ρ.set j (.pu d)) s R) : frzW j Φ ρ s R := ⟨_, by unfold frzE; rw [h], k⟩
theorem grow_i {β : Type} {i : Nat} {φ : WF τ β} {op : List D → β → List D} {xs : List D} {R : Ou → τ → Prop} (h : ρ[i]? = some (.ow (.seq true xs))) (k : φ ρ s fun d s1 => (op xs d).length ≤ Lim ∧ R (.nx (ρ.set i (Sl.ow (.seq true (op xs d))))) s1) : growW i φ op ρ s R := by
  unfold growW; rw [h]; exact k
theorem dput_i {i : Nat} {ks : List Key} {ds : List D} {R : Ou → τ → Prop} (h : ρ[i]? = some (.ow (.dct ks ds))) (k : φb ρ s fun d s1 => φa ρ s1 fun y s2 => ∃ k, keyD y = some k ∧ ds.length < 1000 ∧ R (.nx (ρ.set i (Sl.ow (putD ks ds k d)))) s2) : dputW i φa φb ρ s R := by
  unfold dputW; rw [h]; exact k
theorem dpop_i {i j : Nat} {ks : List Key} {ds : List D} {R : Ou → τ → Prop} (h : ρ[i]? = some (.ow (.dct ks ds))) (k : φ ρ s fun y s1 => ∃ k d, keyD y = some k ∧ getK ks ds k = some d ∧ R (.nx ((ρ.set i (Sl.ow (.dct (dropL ks ds k).1 (dropL ks ds k).2))).set j (.pu d))) s1) : dpopW i j φ ρ s R := by
  unfold dpopW; rw [h]; exact k
theorem lput_i {i : Nat} {j : Int} {xs : List D} {R : Ou → τ → Prop} (h : ρ[i]? = some (.ow (.seq true xs))) (k : φ ρ s fun d s1 => ∃ n, ixN xs.length j = some n ∧ R (.nx (ρ.set i (Sl.ow (.seq true (xs.set n d))))) s1) : lputW i j φ ρ s R := by
  unfold lputW; rw [h]; exact k
end
end L2.Tr

/-! A text times a number; int of one binary sign. -/
namespace L2.Tr
open PySem PySem.Spec PyProof.Rows
/-- a text, so many times -/
def repS (x : Str) (n : Nat) : Str := ⟨(List.replicate n x.cps).foldl (· ++ ·) #[]⟩
theorem repS0 (x : Str) : repS x 0 = Str.empty := rfl
theorem repS1 (x : Str) : repS x 1 = x := by
  show (⟨#[] ++ x.cps⟩ : Str) = x
  rw [Array.empty_append]
theorem repS_len (x : Str) (n : Nat) : (repS x n).length = n * x.length := by
  have key : ∀ (m : Nat) (acc : Array Nat), ((List.replicate m x.cps).foldl (· ++ ·) acc).size = acc.size + m * x.cps.size := fun m => by
    induction m with
    | zero => intro acc; rw [List.replicate_zero, Nat.zero_mul]; rfl
    | succ m ih =>
      intro acc
      rw [List.replicate_succ, List.foldl_cons, ih, Array.size_append, Nat.succ_mul]
      omega
  show ((List.replicate n x.cps).foldl (· ++ ·) #[]).size = _
  rw [key]
  show 0 + n * x.cps.size = n * x.cps.size
  omega
theorem repS_nil (n : Nat) {x : Str} (h : x.length = 0) : repS x n = x := by
  have h1 : (repS x n).cps.size = 0 := by
    have := repS_len x n
    rw [h, Nat.mul_zero] at this
    exact this
  have h2 : x.cps.size = 0 := h
  have e1 : (repS x n).cps = #[] := Array.eq_empty_of_size_eq_zero h1
  have e2 : x.cps = #[] := Array.eq_empty_of_size_eq_zero h2
  show (⟨(repS x n).cps⟩ : Str) = ⟨x.cps⟩
  rw [e1, e2]
def rRepS : R2 := fun x y H Q => ∃ (a : Str) (n : Int), x = .str a ∧ y = .int n ∧ 0 ≤ n ∧ n ≤ 1000 ∧ a.length ≤ 1000 ∧ Q (.str (repS a n.toNat)) H
theorem op_repS {X : Cx} : OpR X (binaryOp .Mult) rRepS := by
  intro pins s σ H x y v u Q I rx ry hw
  obtain ⟨a, n, rfl, rfl, h0, h1, hl, q⟩ := hw
  obtain ⟨t, rfl⟩ := rx
  obtain ⟨t2, rfl⟩ := ry
  have big : ((a.length : Int)) * n ≤ 1000 * 1000 := Int.mul_le_mul (by omega) h1 h0 (by decide)
  refine P.mul_str (by rw [decide_eq_false (by omega), decide_eq_false (by omega)]; rfl) (fun m _ z => ?_) (fun m _ => ?_) ?_
  · have : (a.length : Int) ≤ (2 ^ 63 - 1) / n := Int.le_ediv_of_mul_le (by omega) (by omega)
    omega
  · obtain ⟨k, rfl⟩ := Int.eq_ofNat_of_zero_le h0
    have : a.length * k ≤ 1000 * 1000 := by exact_mod_cast big
    exact decide_eq_false (by rw [sizeLine_eq]; show ¬ a.length * k > _; omega)
  · by_cases c1 : n < 1
    · rw [if_pos c1]
      have : n = 0 := by omega
      subst this
      exact ⟨by decide, ⟨.str Str.empty, H, I.tok _, ⟨_, rfl⟩, q⟩⟩
    · rw [if_neg c1]
      by_cases c2 : (n == 1 || a.length == 0) = true
      · rw [if_pos c2]
        have e : repS a n.toNat = a := by
          rcases Bool.or_eq_true_iff.mp c2 with z | z
          · have : n = 1 := of_decide_eq_true z
            subst this
            exact repS1 a
          · exact repS_nil _ (of_decide_eq_true z)
        rw [e] at q
        exact ⟨.str a, H, I, ⟨_, rfl⟩, q⟩
      · rw [if_neg c2]
        refine ⟨?_, ⟨.str (repS a n.toNat), H, I.tok _, ⟨_, rfl⟩, q⟩⟩
        have := repS_len a n.toNat
        have h3 : n.toNat * a.length ≤ 1000 * 1000 := Nat.mul_le_mul (by omega) hl
        show (repS a n.toNat).length ≤ sizeLine
        rw [this, sizeLine_eq]
        omega
/-- in trees -/
def mulSD : D → D → Option D
  | .leaf (.str a), .leaf (.int n) => if 0 ≤ n ∧ n ≤ 1000 ∧ a.length * n.toNat ≤ 1000 ∧ a.length ≤ 1000 then some (.leaf (.str (repS a n.toNat))) else none
  | _, _ => none
theorem r2_repS : R2D rRepS mulSD := fun d1 d2 z e G H v1 v2 x r1 r2 Q k => by
  unfold mulSD at e
  split at e
  · rename_i a n
    split at e
    · rename_i c
      cases e
      obtain ⟨rfl, _⟩ := r1.lf
      obtain ⟨rfl, _⟩ := r2.lf
      refine ⟨a, n, rfl, rfl, c.1, c.2.1, c.2.2.2, k _ G H (.refl x) (.lf (decide_eq_true ?_))⟩
      rw [repS_len, Nat.mul_comm]
      exact c.2.2.1
    · cases e
  · cases e
/-! int(text, 2), of one sign -/
def binS (b : Bool) : Str := if b then "1" else "0"
theorem int_two (a b : Value) : checkTypeCall "int" ⟨[a, b], []⟩ = pure () := by kernel_rfl
theorem int_two_new (a b : Value) : checkBuiltinCall "int.__new__" ⟨[.type "int", a, b], []⟩ = pure () := by kernel_rfl
theorem bin_reads (b : Bool) : (int_private% "readNumeral") 0 2 ((if (binS b).cps.all (· < 128) then (binS b).cps.toList else Unicode.numberText (binS b).cps.toList).takeWhile (· != 0)) = (int_private% "Numeral.value") (if b then 1 else 0) := by
  cases b <;> kernel_rfl
theorem wp_two {M : Model} {A : Around} {E Q : Value → Shared → Prop} {s : Shared} {v : Value} {b : Bool} (h : Q (.int (if b then 1 else 0) s.toks) { s with toks := s.toks + 1 }) :
    wpAny M A ((int_private% "intFromText") v (if (binS b).cps.all (· < 128) then (binS b).cps.toList else Unicode.numberText (binS b).cps.toList) 2) Q E s := by
  have r := bin_reads b
  have l1 : ((if (binS b).cps.all (· < 128) then (binS b).cps.toList else Unicode.numberText (binS b).cps.toList).takeWhile (· != 0)).length ≤ 640 := by cases b <;> decide +kernel
  have l2 : (((if (binS b).cps.all (· < 128) then (binS b).cps.toList else Unicode.numberText (binS b).cps.toList).takeWhile (· != 0)).length == (if (binS b).cps.all (· < 128) then (binS b).cps.toList else Unicode.numberText (binS b).cps.toList).length) = true := by cases b <;> decide +kernel
  generalize (if (binS b).cps.all (· < 128) then (binS b).cps.toList else Unicode.numberText (binS b).cps.toList) = text at r l1 l2 ⊢
  obtain ⟨hp, gs, dn, tk, os⟩ := s
  repeat (any_goals (first
    | assumption
    | (with_reducible refine wpAny_ite_true (decide_eq_true l1) ?_)
    | (with_reducible refine wpAny_ite_true l2 ?_)
    | wp_step))
  all_goals (try rw [r])
  all_goals (try dsimp only)
  repeat (any_goals (first
    | assumption
    | (with_reducible refine wpAny_ite_true (decide_eq_true l1) ?_)
    | (with_reducible refine wpAny_ite_true l2 ?_)
    | wp_step))
theorem gives_two {b : Bool} {u v : Tok} : Gives (Builtin.«int.__new__» ⟨[.type "int", .str (binS b) u, .int 2 v], []⟩) (.int (if b then 1 else 0)) :=
  .of_wp fun M A E s Q h => by
    obtain ⟨hp, gs, dn, tk, os⟩ := s
    have f1 := F.conv_sub_int
    have f2 := F.madeHere_int
    have f6 : typeOf (.str (binS b) u) = pure (.type "str") := rfl
    have f7 : typeOf (.int 2 v) = pure (.type "int") := rfl
    repeat (any_goals (first
      | assumption
      | ((with_reducible show wpAny _ _ ((int_private% "intFromText") _ _ _) _ _ _); refine wp_two ?_)
      | wp_step))
    all_goals (try exact ⟨_, rfl, h⟩)
/-- int(a sign, 2) -/
def rInt2 : List V → Hp → VK → Prop := fun xs H Q => ∃ b : Bool, xs = [.str (binS b), .int 2] ∧ Q (.int (if b then 1 else 0)) H
theorem call_int_two {X : Cx} : CallR X (.type "int") rInt2 := by
  intro pins s σ H xs us Q I rs hw
  obtain ⟨b, rfl, q⟩ := hw
  cases rs with
  | cons r1 rs =>
    cases rs with
    | cons r2 rs =>
      cases rs
      obtain ⟨t1, rfl⟩ := r1
      obtain ⟨t2, rfl⟩ := r2
      exact callType_new F.called_int F.newNe_int (int_two _ _) (int_two_new _ _) (fun obj => F.args_object_init_3 obj _ _) F.entry_int_new (gives_two (b := b)).meets (show (Made.int (if b then 1 else 0)).post _ s from ⟨rfl, ⟨.int (if b then 1 else 0), H, I.tok _, ⟨_, rfl⟩, q⟩⟩)
def int2D : List D → Option D
  | [.leaf (.str x), .leaf (.int 2)] => if x = "0" then some (.leaf (.int 0)) else if x = "1" then some (.leaf (.int 1)) else none
  | _ => none
theorem r1_int2 : R1D rInt2 int2D := fun ds z e G H vs x r1 Q k => by
  unfold int2D at e
  split at e
  · rename_i a
    obtain ⟨u1, us1, rfl, q1, u2, us2, rfl, q2, q3⟩ := r1
    obtain ⟨rfl, _⟩ := q1.lf
    obtain ⟨rfl, _⟩ := q2.lf
    have q3 : us2 = [] := q3
    subst q3
    split at e
    · rename_i c
      cases e
      rw [c]
      exact ⟨false, rfl, k _ G H (.refl x) (.lf rfl)⟩
    · split at e
      · rename_i c
        cases e
        rw [c]
        exact ⟨true, rfl, k _ G H (.refl x) (.lf rfl)⟩
      · cases e
  · cases e
end L2.Tr

/-! Bits of numbers, joined texts, (*a, ..). -/
namespace L2.Tr
open PySem PySem.Spec PyProof.Rows
section
variable {X : Cx} {e a b o : Expr} {es : List Expr} {t ta tb to : TE} {tr : TA} {φ φa φb : Env → Option D} {ψ : Env → Option (List D)} {p pos apos : Pos}
def shlD : D → D → Option D
  | .leaf (.int i), .leaf (.int j) => if 0 ≤ j ∧ j ≤ 1000000 ∧ i.natAbs < 2 ^ 64 then some (.leaf (.int (i * 2 ^ j.toNat))) else none
  | _, _ => none
theorem r2_shl : R2D (rI CPow fun i j => .int (i * 2 ^ j.toNat)) shlD := fun d1 d2 z ee G H v1 v2 x r1 r2 Q k => by
  unfold shlD at ee
  split at ee
  · rename_i i j
    split at ee
    · rename_i hj
      cases ee
      obtain ⟨rfl, _⟩ := r1.lf
      obtain ⟨rfl, _⟩ := r2.lf
      exact ⟨i, j, rfl, rfl, hj, k _ G H (.refl x) (.lf rfl)⟩
    · cases ee
  · cases ee
theorem pu_shl (ha : ViD X a ta φa) (hb : ViD X b tb φb) : PuD X (.BinOp a .LShift b pos) (tOp (rI CPow fun i j => .int (i * 2 ^ j.toNat)) ta tb) (bin2 shlD φa φb) := pu_op op_shl r2_shl ha hb
theorem pu_and (ha : ViD X a ta φa) (hb : ViD X b tb φb) : PuD X (.BinOp a .BitAnd b pos) (tOp (rI0 fun i j => .int (Builtin.bitAnd i j)) ta tb) (bin2 (intI fun i j => .int (Builtin.bitAnd i j)) φa φb) := pu_op op_and (r2_I0 fun _ _ => rfl) ha hb
theorem pu_bor (ha : ViD X a ta φa) (hb : ViD X b tb φb) : PuD X (.BinOp a .BitOr b pos) (tOp (rI0 fun i j => .int (Builtin.bitOr i j)) ta tb) (bin2 (intI fun i j => .int (Builtin.bitOr i j)) φa φb) := pu_op op_or (r2_I0 fun _ _ => rfl) ha hb
theorem pu_xor (ha : ViD X a ta φa) (hb : ViD X b tb φb) : PuD X (.BinOp a .BitXor b pos) (tOp (rI0 fun i j => .int (Builtin.bitXor i j)) ta tb) (bin2 (intI fun i j => .int (Builtin.bitXor i j)) φa φb) := pu_op op_xor (r2_I0 fun _ _ => rfl) ha hb
theorem pu_repS (ha : ViD X a ta φa) (hb : ViD X b tb φb) : PuD X (.BinOp a .Mult b pos) (tOp rRepS ta tb) (bin2 mulSD φa φb) := pu_op op_repS r2_repS ha hb
/-! (*a, ..) -/
def itemsD : D → Option (List D)
  | .seq _ xs => some xs
  | _ => none
def starD (φ : Env → Option D) (ψ : Env → Option (List D)) : Env → Option (List D) := fun ρ => ((φ ρ).bind itemsD).bind fun xs => (ψ ρ).map (xs ++ ·)
theorem Reps.append {G : Hp} : ∀ {ds es : List D} {us vs : List V}, Reps G ds us → Reps G es vs → Reps G (ds ++ es) (us ++ vs)
  | [], es, us, vs, h, h2 => by rw [h.un0]; exact h2
  | d :: ds, es, us, vs, h, h2 => by
    obtain ⟨u, r, rfl, q, tl⟩ := h.un
    exact .cons q (Reps.append tl h2)
theorem ar_star (he : PuD X e t φ) (hr : ArD X es tr ψ) (hs : starEach (.Starred e p :: es) X.env = (true, eval e X.env) :: starEach es X.env := by rfl) : ArD X (.Starred e p :: es) (StX.tStar X.K t tr) (starD φ ψ) := ⟨StX.pa_star he.pe hr.pa hs, fun ρ ds ee G H σ x Q k => by
  obtain ⟨xs, e1, e2⟩ := Option.bind_eq_some_iff.mp ee
  obtain ⟨d, e3, e4⟩ := Option.bind_eq_some_iff.mp e1
  obtain ⟨ys, e5, rfl⟩ := Option.map_eq_some_iff.mp e2
  refine he.ev ρ d e3 G H σ x _ fun v G1 H1 f1 r1 => ?_
  unfold itemsD at e4
  split at e4
  · rename_i bb zs
    cases e4
    obtain ⟨l, us, rfl, h1, _, q⟩ := r1.un_sq
    have h2 : SqT X.K H1 l us ∨ SqL X.K H1 l us := by
      have h3 := f1.gh _ _ h1
      cases bb with
      | true => exact .inr (SqL.of h3)
      | false => exact .inl (SqT.of h3)
    refine ⟨l, us, rfl, h2, hr.ev ρ ys e5 G1 H1 σ (x.mono f1) _ fun vs G2 H2 f2 r2 => ?_⟩
    exact k _ G2 H2 (f1.trans f2) (Reps.append (q.mono f2.g) r2)
  · cases e4⟩
/-! sep.join(texts) -/
def strsD : List D → Option (List Str)
  | [] => some []
  | .leaf (.str x) :: r => (strsD r).map (x :: ·)
  | _ :: _ => none
theorem strsD_un : ∀ {ds : List D} {ys : List Str}, strsD ds = some ys → ds = ys.map fun x => .leaf (.str x)
  | [], ys, h => by cases h; rfl
  | d :: r, ys, h => by
    cases d with
    | leaf v =>
      cases v with
      | str x =>
        obtain ⟨zs, h1, rfl⟩ := Option.map_eq_some_iff.mp (show (strsD r).map (x :: ·) = some ys from h)
        rw [strsD_un h1]; rfl
      | _ => cases h
    | _ => cases h
def joinD : D → D → Option D
  | .leaf (.str a), .seq _ ds => (strsD ds).bind fun ys => if (ys.map (·.length)).sum + ys.length * a.length ≤ 16777216 ∧ (Txt.join a ys).length ≤ 1000 then some (.leaf (.str (Txt.join a ys))) else none
  | _, _ => none
theorem pu_join (ho : PuD X o to φa) (he : PuD X e t φb) (hs : starEach [e] X.env = [(false, eval e X.env)] := by rfl) (hbase : attributeBase o "join" X.env (eval o X.env) = eval o X.env := by rfl) (hline : (apos.endLine == pos.line) = true := by rfl) :
    PuD X (.Call (.Attribute o "join" apos) [e] [] pos) (tM1 (fun x xs H Q => ∃ a p, ∃ ys : List Str, x = .str a ∧ xs = [.ref p] ∧ (SqL X.K H p (ys.map V.str) ∨ SqT X.K H p (ys.map V.str)) ∧ (ys.map (·.length)).sum + ys.length * a.length ≤ 16777216 ∧ Q (.str (Txt.join a ys)) H) to t) (bin2 joinD φa φb) := ⟨pe_join ho.pe he.pe hs hbase hline, fun ρ d ee G H σ x Q k => by
  obtain ⟨d1, e1, e2⟩ := Option.bind_eq_some_iff.mp ee
  obtain ⟨d2, e3, e4⟩ := Option.bind_eq_some_iff.mp e2
  refine ho.ev ρ d1 e1 G H σ x _ fun v1 G1 H1 f1 r1 => ?_
  unfold joinD at e4
  split at e4
  · rename_i a bb ds
    obtain ⟨ys, e5, e6⟩ := Option.bind_eq_some_iff.mp e4
    split at e6
    · rename_i c
      cases e6
      obtain ⟨rfl, _⟩ := r1.un_lf
      refine ⟨⟨a, rfl⟩, he.ev ρ _ e3 G1 H1 σ (x.mono f1) _ fun v2 G2 H2 f2 r2 => ?_⟩
      obtain ⟨l, us, rfl, h1, _, q⟩ := r2.un_sq
      have hu : us = ys.map V.str := by
        rw [strsD_un e5] at q
        have e7 : (ys.map fun x => D.leaf (.str x)) = (ys.map V.str).map D.leaf := by rw [List.map_map]; rfl
        rw [e7] at q
        exact q.un_lfs
      subst hu
      have h3 := f2.gh _ _ h1
      refine ⟨a, l, ys, rfl, rfl, ?_, c.1, k _ G2 H2 (f1.trans f2) (.lf (decide_eq_true c.2))⟩
      cases bb with
      | true => exact .inl (SqL.of h3)
      | false => exact .inr (SqT.of h3)
    · cases e6
  · cases e4⟩
end
end L2.Tr

/-! An instance's own operators between two of its class, ~, and its own call. -/
namespace L2.Tr
open PySem PySem.Spec PyProof.Rows
section
variable {X : Cx} {K : PySem.W.Frag} {C f : Addr} {k : Nat} {fd : FuncData} {ps : List Str} {sp : Sp} {e a b fe : Expr} {es : List Expr} {t ta tb tf : TE} {tr : TA} {φ φa φb : Env → Option D} {ψ : Env → Option (List D)} {pos : Pos} {m : Str}
/-- a method of a class by the name m -/
structure OpC (K : PySem.W.Frag) (C a : Addr) (m : Str) : Prop where
  at_ : PySem.W.findIn K (.ref C) m = some (some (.ref a))
  fn : PySem.W.isFn K (.ref a) = true
  first : PySem.W.selfFirst K C = true
def rOwnB (C : Addr) (sp : Sp) : R2 := fun x y H Q => ∃ a dx fs b dy gs, x = .ref a ∧ H a = some (.ins C dx fs) ∧ y = .ref b ∧ H b = some (.ins C dy gs) ∧ sp [x, y] H (fun v H' => ∃ p, v = .ref p ∧ Q v H') E0
theorem op_ownB {op : Operator} (F : FnOk X.prog X.w X.K X.mg X.base CX0 k f fd ps sp) (hr : Room k X.A) (O : OpC X.K C f (PySem.dunder op.info.2)) (hb : Binds X.K fd ps []) : OpR X (binaryOp op) (rOwnB C sp) := by
  intro pins s σ H x y v u Q I rx ry hw
  obtain ⟨a, dx, fs, b, dy, gs, rfl, ha, rfl, hy, q⟩ := hw
  obtain rfl : v = Value.ref a := rx
  obtain rfl : u = Value.ref b := ry
  obtain ⟨mA, J, _⟩ := ins_get I.hok ha
  obtain ⟨od, J, _⟩ := J.look
  obtain ⟨mB, J2, _⟩ := ins_get I.hok hy
  obtain ⟨od2, J2, _⟩ := J2.look
  obtain ⟨m, fr⟩ := I.fr
  refine PySem.W.binop_K fr I.ok.mod.kin J J2.type O.first O.at_ O.fn ?_
  refine thn (run_fn (dvs := []) (ds := []) F hr hb .nil pass0 I (show Vals [V.ref a, V.ref b] [Value.ref a, Value.ref b] from .cons (show RelV (V.ref a) (Value.ref a) from rfl) (.cons (show RelV (V.ref b) (Value.ref b) from rfl) .nil)) q) fun u' s1 hq => ?_
  obtain ⟨z, H', I', rz, p, ez, hq⟩ := hq
  subst ez
  obtain rfl : u' = Value.ref p := rz
  exact ⟨.ref p, H', I', rfl, hq⟩
def rOwnU (C : Addr) (sp : Sp) : V → Hp → VK → Prop := fun x H Q => ∃ a dx fs, x = .ref a ∧ H a = some (.ins C dx fs) ∧ sp [x] H Q E0
theorem un_own (F : FnOk X.prog X.w X.K X.mg X.base CX0 k f fd ps sp) (hr : Room k X.A) (O : OpC X.K C f "__invert__") (hb : Binds X.K fd ps []) : UnR X (unaryOp .Invert) (rOwnU C sp) := by
  intro pins s σ H x v Q I rx hw
  obtain ⟨a, dx, fs, rfl, ha, q⟩ := hw
  obtain rfl : v = Value.ref a := rx
  obtain ⟨mA, J, _⟩ := ins_get I.hok ha
  obtain ⟨od, J, _⟩ := J.look
  unfold unaryOp
  refine wpAny_holding ?_
  refine wpAny_bind (PySem.W.special_fn I.kIn J O.at_ (beq_iff_eq.mp O.fn) ?_)
  refine thn (run_fn (dvs := []) (ds := []) F hr hb .nil pass0 I (show Vals [V.ref a] [Value.ref a] from .cons (show RelV (V.ref a) (Value.ref a) from rfl) .nil) q) fun u' s1 hq => ?_
  exact wpAny_pure hq
/-! in trees -/
structure BinO (P : Program) (w : World) (K : PySem.W.Frag) (mg : Str → Option Value) (base : Heap) (C : Addr) (m : Str) (k : Nat) (g : List D → Option D) : Prop where
  ex : ∃ (a : Addr) (fd : FuncData) (ps : List Str), OpC K C a m ∧ FnOk P w K mg base CX0 k a fd ps (spP g) ∧ Binds K fd ps []
def objD : D → Option D
  | .obj C ns ds => some (.obj C ns ds)
  | _ => none
def ownBD (C0 : Addr) (g : List D → Option D) : D → D → Option D := fun x y => match x, y with
  | .obj C _ _, .obj C' _ _ => if C = C0 ∧ C' = C0 then (g [x, y]).bind objD else none
  | _, _ => none
theorem pu_ownB {op : Operator} {C0 : Addr} {g : List D → Option D} (h : BinO X.prog X.w X.K X.mg X.base C0 (PySem.dunder op.info.2) k g) (hr : Room k X.A) (ha : PuD X a ta φa) (hb : PuD X b tb φb) : PuD X (.BinOp a op b pos) (tOp (rOwnB C0 (spP g)) ta tb) (bin2 (ownBD C0 g) φa φb) := by
  obtain ⟨fa, fd, ps, O, F, B⟩ := h.ex
  refine ⟨pe_op (op_ownB F hr O B) ha.pe hb.pe, fun ρ z ee G H σ x Q k => ?_⟩
  obtain ⟨d1, e1, e2⟩ := Option.bind_eq_some_iff.mp ee
  obtain ⟨d2, e3, e4⟩ := Option.bind_eq_some_iff.mp e2
  refine ha.ev ρ d1 e1 G H σ x _ fun v1 G1 H1 f1 r1 => ?_
  refine hb.ev ρ d2 e3 G1 H1 σ (x.mono f1) _ fun v2 G2 H2 f2 r2 => ?_
  have r1 := r1.mono f2.g
  unfold ownBD at e4
  split at e4
  · rename_i C ns ds C' ns' ds'
    split at e4
    · rename_i hC
      obtain ⟨rfl, rfl⟩ := hC
      obtain ⟨d, e5, e6⟩ := Option.bind_eq_some_iff.mp e4
      obtain ⟨p, dx, us, rfl, h1, h2, h3⟩ := r1.un_obj
      obtain ⟨p2, dy, us2, rfl, h4, h5, h6⟩ := r2.un_obj
      refine ⟨p, dx, _, p2, dy, _, rfl, f2.gh _ _ h1, rfl, f2.gh _ _ h4, G2, _, d, f2.gh, .cons r1 (.cons r2 .nil), e5, fun v G3 H3 f3 r => ?_⟩
      unfold objD at e6
      split at e6
      · cases e6
        obtain ⟨p3, d3, us3, rfl, h7, h8, h9⟩ := r.un_obj
        exact ⟨p3, rfl, k _ G3 H3 (f1.trans (f2.trans f3)) r⟩
      · cases e6
    · cases e4
  · cases e4
def ownUD (C0 : Addr) (g : List D → Option D) : D → Option D := fun x => match x with
  | .obj C _ _ => if C = C0 then g [x] else none
  | _ => none
/-- ~x -/
theorem pu_ownU {C0 : Addr} {g : List D → Option D} (h : BinO X.prog X.w X.K X.mg X.base C0 "__invert__" k g) (hr : Room k X.A) (ha : PuD X a ta φa) : PuD X (.UnaryOp .Invert a pos) (tUn (rOwnU C0 (spP g)) ta) (fun ρ => (φa ρ).bind (ownUD C0 g)) := by
  obtain ⟨fa, fd, ps, O, F, B⟩ := h.ex
  refine ⟨pe_un (un_own F hr O B) ha.pe, fun ρ z ee G H σ x Q k => ?_⟩
  obtain ⟨d1, e1, e2⟩ := Option.bind_eq_some_iff.mp ee
  refine ha.ev ρ d1 e1 G H σ x _ fun v1 G1 H1 f1 r1 => ?_
  unfold ownUD at e2
  split at e2
  · rename_i C ns ds
    split at e2
    · rename_i hC
      subst hC
      obtain ⟨p, dx, us, rfl, h1, h2, h3⟩ := r1.un_obj
      exact ⟨p, dx, _, rfl, f1.gh _ _ h1, G1, _, z, f1.gh, .cons r1 .nil, e2, fun v G2 H2 f2 r => k _ G2 H2 (f1.trans f2) r⟩
    · cases e2
  · cases e2
/-! f(e, ..), f an instance -/
structure ClO (P : Program) (w : World) (K : PySem.W.Frag) (mg : Str → Option Value) (base : Heap) (C : Addr) (k : Nat) (g : List D → Option D) : Prop where
  ex : ∃ (a : Addr) (fd : FuncData) (ps : List Str), StX.CallO K C a ∧ FnOk P w K mg base CX0 k a fd ps (spP g) ∧ Binds K fd ps []
def callOD (C0 : Addr) (g : List D → Option D) (φ : Env → Option D) (ψ : Env → Option (List D)) : Env → Option D := fun ρ => (φ ρ).bind fun x => (ψ ρ).bind fun xs => match x with
  | .obj C _ _ => if C = C0 then g (x :: xs) else none
  | _ => none
theorem pu_callO {C0 : Addr} {g : List D → Option D} (h : ClO X.prog X.w X.K X.mg X.base C0 k g) (hr : Room k X.A) (hf : PuD X fe tf φ) (ha : ArD X (e :: es) tr ψ)
    (ht : eval (.Call fe (e :: es) [] pos) X.env = (do callWith pos (← eval fe X.env) [] (backTo pos (starEach (e :: es) X.env)) (backToKw pos (keywordEach [] X.env))) := by rfl)
    (he : starEach (e :: es) X.env = (false, eval e X.env) :: starEach es X.env := by rfl) (hpl : (backTo pos (starEach es X.env)).any (·.1) = false := by rfl) :
    PuD X (.Call fe (e :: es) [] pos) (StX.tCallO X C0 (fun vs H Q E => spP g (vs ++ []) H Q E) E0 tf tr) (callOD C0 g φ ψ) := by
  obtain ⟨fa, fd, ps, O, F, B⟩ := h.ex
  refine ⟨StX.pe_callO hf.pe O (FnOk.raw F B .nil) hr pass0 ha.pa ht he hpl, fun ρ z ee G H σ x Q k => ?_⟩
  obtain ⟨d1, e1, e2⟩ := Option.bind_eq_some_iff.mp ee
  obtain ⟨xs, e3, e4⟩ := Option.bind_eq_some_iff.mp e2
  refine hf.ev ρ d1 e1 G H σ x _ fun v1 G1 H1 f1 r1 => ?_
  split at e4
  · rename_i C ns ds
    split at e4
    · rename_i hC
      subst hC
      obtain ⟨p, dx, us, rfl, h1, h2, h3⟩ := r1.un_obj
      refine ⟨p, rfl, ha.ev ρ xs e3 G1 H1 σ (x.mono f1) _ fun vs G2 H2 f2 r2 => ⟨.inr ⟨dx, _, f2.gh _ _ (f2.g _ _ h1)⟩, ?_⟩⟩
      show spP g ((V.ref p :: vs) ++ []) H2 Q E0
      rw [List.append_nil]
      exact ⟨G2, _, z, f2.gh, .cons (r1.mono f2.g) r2, e4, fun v G3 H3 f3 r => k _ G3 H3 (f1.trans (f2.trans f3)) r⟩
    · cases e4
  · cases e4
end
end L2.Tr

/-! A stack: s.append(a op s.pop()), s.append(s.pop() op s.pop()). -/
namespace L2.Tr
open PySem PySem.Spec PyProof.Rows
theorem upd_upd {H : Hp} {p : Addr} {o o2 : HO} : upd (upd H p o) p o2 = upd H p o2 := funext fun c => by
  by_cases e : c = p
  · rw [e, upd_same, upd_same]
  · rw [upd_ne e, upd_ne e, upd_ne e]
theorem Reps.un_app {G : Hp} : ∀ {ds es : List D} {us : List V}, Reps G (ds ++ es) us → ∃ u1 u2, us = u1 ++ u2 ∧ Reps G ds u1 ∧ Reps G es u2
  | [], es, us, h => ⟨[], us, rfl, .nil, h⟩
  | d :: ds, es, us, h => by
    obtain ⟨u, r, rfl, q, tl⟩ := Reps.un (ds := ds ++ es) h
    obtain ⟨u1, u2, rfl, h1, h2⟩ := Reps.un_app tl
    exact ⟨u :: u1, u2, rfl, .cons q h1, h2⟩
theorem rev_snoc {α : Type} {xs r : List α} {y : α} (h : xs.reverse = y :: r) : xs = r.reverse ++ [y] := by
  have := congrArg List.reverse h
  rwa [List.reverse_reverse, List.reverse_cons] at this
section
variable {X : Cx} {e : Expr} {t : TE} {φ : Env → Option D} {st : Stmt} {i : Nat} {g : Int → Int → V}
def popLF (i : Nat) (g : Int → Int → V) (φ : Env → Option D) : Env → Option Out := fun ρ => match ρ[i]? with
  | some (.ow (.seq true xs)) => (φ ρ).bind fun d => match d, xs.reverse with
    | .leaf (.int a), .leaf (.int b) :: r => some (.nx (ρ.set i (Sl.ow (.seq true (r.reverse ++ [.leaf (g a b)])))))
    | _, _ => none
  | _ => none
abbrev tPop (K : PySem.W.Frag) (i : Nat) : TE := tBM0 K "list" rPop (tVar i)
theorem sd_popL {o1 o2 : Expr} {op : Operator} {ap1 ap2 cp1 cp2 bp pos : Pos} (lf : ∀ a b, leafy (g a b) = true) (h : PuD X e t φ) (hp : PE X e t → PS X (.Expr (.Call (.Attribute o1 "append" ap1) [.BinOp e op (.Call (.Attribute o2 "pop" ap2) [] [] cp2) bp] [] cp1) pos) (tDrop (tBM X.K "list" rAppend (tVar i) (tCons (tOp (rI0 g) t (tPop X.K i)) tNil)))) :
    StD X (.Expr (.Call (.Attribute o1 "append" ap1) [.BinOp e op (.Call (.Attribute o2 "pop" ap2) [] [] cp2) bp] [] cp1) pos) (tDrop (tBM X.K "list" rAppend (tVar i) (tCons (tOp (rI0 g) t (tPop X.K i)) tNil))) (popLF i g φ) := ⟨hp h.pe, fun ρ o ee G H σ x De k => by
  unfold popLF at ee
  split at ee
  · rename_i xs h1
    obtain ⟨d, e1, e2⟩ := Option.bind_eq_some_iff.mp ee
    split at e2
    · rename_i a b r hr
      cases e2
      obtain ⟨p, ob, h2, h3, h4, us, rfl, h5, h6⟩ := x.ow i _ h1
      have hx := rev_snoc hr
      rw [hx] at h6
      obtain ⟨u1, u2, rfl, q1, q2⟩ := Reps.un_app h6
      obtain ⟨w, ws, rfl, q3, q4⟩ := q2.un
      obtain ⟨rfl, _⟩ := q3.un_lf
      rw [q4.un0] at h4 h6
      refine ⟨_, h2, .inl ⟨rfl, _, SqL.of h4⟩, h.ev ρ _ e1 G H σ x _ fun v G1 H1 f1 r1 => ?_⟩
      obtain ⟨rfl, _⟩ := r1.un_lf
      have h7 := f1.h _ _ h4
      refine ⟨_, h2, .inl ⟨rfl, _, SqL.of h7⟩, p, _, .int b, rfl, rfl, h7, by simp, a, b, rfl, rfl, ?_⟩
      rw [List.dropLast_concat]
      have hl : (r.reverse ++ [D.leaf (g a b)]).length ≤ Lim := by
        have : xs.length = r.reverse.length + 1 := by rw [hx, List.length_append]; rfl
        rw [List.length_append]
        show r.reverse.length + 1 ≤ Lim
        omega
      have gr := grow_ok (x.mono f1) (fun _ _ _ z => by cases z) (ys := .seq true (r.reverse ++ [.leaf (g a b)])) (ob := .lst (u1 ++ [g a b])) h1 h2 ⟨_, rfl, hl, (q1.mono f1.g).app (.cons (.lf (lf a b)) .nil)⟩
      rw [← upd_upd (o := .lst u1)] at gr
      refine ⟨p, u1, g a b, rfl, rfl, upd_same, ?_, k σ G1 _ gr.1 ((FrS.of f1).trans gr.2)⟩
      have : u1.length = r.reverse.length := q1.len
      rw [List.length_append] at hl
      rw [sizeLine_eq]; have : Lim = 5000 := rfl; have : [D.leaf (g a b)].length = 1 := rfl; omega
    · cases e2
  · cases ee⟩
def popBF (i : Nat) (g : Int → Int → V) : Env → Option Out := fun ρ => match ρ[i]? with
  | some (.ow (.seq true xs)) => match xs.reverse with
    | .leaf (.int a) :: .leaf (.int b) :: r => some (.nx (ρ.set i (Sl.ow (.seq true (r.reverse ++ [.leaf (g a b)])))))
    | _ => none
  | _ => none
theorem sd_popB (lf : ∀ a b, leafy (g a b) = true) (hp : PS X st (tDrop (tBM X.K "list" rAppend (tVar i) (tCons (tOp (rI0 g) (tPop X.K i) (tPop X.K i)) tNil)))) :
    StD X st (tDrop (tBM X.K "list" rAppend (tVar i) (tCons (tOp (rI0 g) (tPop X.K i) (tPop X.K i)) tNil))) (popBF i g) := ⟨hp, fun ρ o ee G H σ x De k => by
  unfold popBF at ee
  split at ee
  · rename_i xs h1
    split at ee
    · rename_i a b r hr
      cases ee
      obtain ⟨p, ob, h2, h3, h4, us, rfl, h5, h6⟩ := x.ow i _ h1
      have hx : xs = r.reverse ++ [.leaf (.int b), .leaf (.int a)] := by
        have := rev_snoc hr
        rw [List.reverse_cons, List.append_assoc] at this
        exact this
      rw [hx] at h6
      obtain ⟨u1, u2, rfl, q1, q2⟩ := Reps.un_app h6
      obtain ⟨w, ws, rfl, q3, q4⟩ := q2.un
      obtain ⟨w2, ws2, rfl, q5, q6⟩ := q4.un
      obtain ⟨rfl, _⟩ := q3.un_lf
      obtain ⟨rfl, _⟩ := q5.un_lf
      rw [q6.un0] at h4 h6
      refine ⟨_, h2, .inl ⟨rfl, _, SqL.of h4⟩, ⟨_, h2, .inl ⟨rfl, _, SqL.of h4⟩, p, _, .int a, rfl, rfl, h4, by simp, ?_⟩⟩
      have e1 : (u1 ++ [V.int b, V.int a]).dropLast = u1 ++ [V.int b] := by
        rw [show u1 ++ [V.int b, V.int a] = (u1 ++ [V.int b]) ++ [V.int a] by simp, List.dropLast_concat]
      rw [e1]
      refine ⟨_, h2, .inl ⟨rfl, _, SqL.of upd_same⟩, p, _, .int b, rfl, rfl, upd_same, by simp, a, b, rfl, rfl, ?_⟩
      rw [List.dropLast_concat, upd_upd]
      have hl : (r.reverse ++ [D.leaf (g a b)]).length ≤ Lim := by
        have : xs.length = r.reverse.length + 2 := by rw [hx, List.length_append]; rfl
        rw [List.length_append]
        show r.reverse.length + 1 ≤ Lim
        omega
      have gr := grow_ok x (fun _ _ _ z => by cases z) (ys := .seq true (r.reverse ++ [.leaf (g a b)])) (ob := .lst (u1 ++ [g a b])) h1 h2 ⟨_, rfl, hl, q1.app (.cons (.lf (lf a b)) .nil)⟩
      rw [← upd_upd (o := .lst u1)] at gr
      refine ⟨p, u1, g a b, rfl, rfl, upd_same, ?_, k σ G _ gr.1 gr.2⟩
      have : u1.length = r.reverse.length := q1.len
      rw [List.length_append] at hl
      rw [sizeLine_eq]; have : Lim = 5000 := rfl; have : [D.leaf (g a b)].length = 1 := rfl; omega
    · cases ee
  · cases ee⟩
end
end L2.Tr

/-! xs.index(a text); sorted(ints, key=int). -/
namespace L2.Tr
open PySem PySem.Spec PyProof.Rows
def idxS (x : Str) : List Str → Option Nat
  | [] => none
  | y :: r => if y = x then some 0 else (idxS x r).map (· + 1)
theorem idxS_at {x : Str} : ∀ {ys : List Str} {j : Nat}, idxS x ys = some j → ys[j]? = some x ∧ ∀ (m : Nat) (z : Str), m < j → ys[m]? = some z → z ≠ x
  | [], j, h => by cases h
  | y :: r, j, h => by
    unfold idxS at h
    split at h
    · rename_i e
      cases h
      exact ⟨congrArg some e, fun m z hm _ => absurd hm (Nat.not_lt_zero _)⟩
    · rename_i e
      obtain ⟨i, h1, rfl⟩ := Option.map_eq_some_iff.mp h
      obtain ⟨h2, h3⟩ := idxS_at h1
      refine ⟨h2, fun m z hm hz => ?_⟩
      cases m with
      | zero => cases hz; exact e
      | succ m => exact h3 m z (by omega) hz
theorem idxS_mem {x : Str} : ∀ {ys : List Str}, x ∈ ys → ∃ j, idxS x ys = some j
  | [], h => by cases h
  | y :: r, h => by
    unfold idxS
    split
    · exact ⟨0, rfl⟩
    · rename_i e
      obtain ⟨j, q⟩ := idxS_mem ((List.mem_cons.mp h).resolve_left fun z => e z.symm)
      exact ⟨j + 1, by rw [q]; rfl⟩
def indexD : D → D → Option D
  | .seq true ds, .leaf (.str x) => (strsD ds).bind fun ys => (idxS x ys).map fun j => .leaf (.int (j : Nat))
  | _, _ => none
section
variable {X : Cx} {o e : Expr} {to t : TE} {φa φb : Env → Option D} {apos pos : Pos}
theorem pu_index (ho : PuD X o to φa) (he : PuD X e t φb) (hp : PE X o to → PE X e t → PE X (.Call (.Attribute o "index" apos) [e] [] pos) (tBM X.K "list" (rIndex X.K) to (tCons t tNil))) :
    PuD X (.Call (.Attribute o "index" apos) [e] [] pos) (tBM X.K "list" (rIndex X.K) to (tCons t tNil)) (bin2 indexD φa φb) := ⟨hp ho.pe he.pe, fun ρ d ee G H σ x Q k => by
  obtain ⟨d1, e1, e2⟩ := Option.bind_eq_some_iff.mp ee
  obtain ⟨d2, e3, e4⟩ := Option.bind_eq_some_iff.mp e2
  refine ho.ev ρ d1 e1 G H σ x _ fun v1 G1 H1 f1 r1 => ?_
  unfold indexD at e4
  split at e4
  · rename_i ds y
    obtain ⟨ys, e5, e6⟩ := Option.bind_eq_some_iff.mp e4
    obtain ⟨j, e7, rfl⟩ := Option.map_eq_some_iff.mp e6
    obtain ⟨l, us, rfl, h1, _, q⟩ := r1.un_sq
    have hu : us = ys.map V.str := by
      rw [strsD_un e5, show (ys.map fun x => D.leaf (.str x)) = (ys.map V.str).map D.leaf by rw [List.map_map]; rfl] at q
      exact q.un_lfs
    subst hu
    have h2 := f1.gh _ _ h1
    refine ⟨.inl ⟨rfl, _, SqL.of h2⟩, he.ev ρ _ e3 G1 H1 σ (x.mono f1) _ fun v2 G2 H2 f2 r2 => ?_⟩
    obtain ⟨rfl, _⟩ := r2.un_lf
    obtain ⟨i1, i2⟩ := idxS_at e7
    refine ⟨l, ys.map V.str, .str y, j, .str y, rfl, rfl, SqL.of (f2.h _ _ h2), rfl, ?_, by rw [List.getElem?_map, i1]; rfl, beq_self_eq_true y, fun m z hm hz => ?_, k _ G2 H2 (f1.trans f2) (.lf rfl)⟩
    · rw [List.all_eq_true]
      intro v hv
      obtain ⟨s, _, rfl⟩ := List.mem_map.mp hv
      rfl
    · rw [List.getElem?_map] at hz
      obtain ⟨s, hs, rfl⟩ := Option.map_eq_some_iff.mp hz
      exact beq_eq_false_iff_ne.mpr (i2 m s hm hs)
  · cases e4⟩
end
end L2.Tr

/-! sorted(xs, key=int) of a list or tuple of ints. -/
namespace L2.Tr
open PySem PySem.Spec PyProof.Rows
theorem ints_vals : ∀ {ks : List Int} {us : List Value}, Vals (ks.map V.int) us → IntsAre us ks
  | [], us, h => by cases h; exact .nil
  | k :: ks, us, h => by
    cases h with
    | cons r t =>
      obtain ⟨tk, rfl⟩ := r
      exact .cons k tk (ints_vals t)
section
variable {X : Cx}
theorem collect_any {A : Around} {pins : List (Addr × Obj)} {σ : L2.St} {H : Hp} {s : Shared} {E : Value → Shared → Prop} {a : Addr} {ks : List Int} (I : Inv X pins σ H s) (h : SqT X.K H a (ks.map V.int) ∨ SqL X.K H a (ks.map V.int)) (lim : ks.length < 1000) {Q : List Value → Shared → Prop}
    (q : ∀ (its : List Value) (g : Heap), (∀ b u, s.heap.get? b = some u → g.get? b = some u) → IntsAre its ks → Q its { s with heap := g }) : wpAny (model X.prog X.w) A (collect (.ref a)) Q E s := by
  have fin : ∀ {T : String} {o : Obj} {its : List Value} {n : Nat}, (T = "list" ∨ T = "tuple") → s.heap.get? a = some o → o.cls = .type T → o.data = .seq its.toArray n → Vals (ks.map V.int) its → wpAny (model X.prog X.w) A (collect (.ref a)) Q E s := fun {T o its n} hT ho hc hd r => by
    have len := r.length
    rw [List.length_map] at len
    refine wpAny_collect_seq a hT ho hc hd (fun g keep => ?_) (by rw [List.size_toArray, sizeLine_eq]; omega)
    have e : its.toArray.toList = its := by simp
    rw [e]
    exact q its g keep (ints_vals r)
  rcases h with h | h
  · obtain ⟨its, r, ⟨o, ho, hc, n, hd⟩, _⟩ := I.tuple h
    exact fin (.inr rfl) ho hc hd r
  · obtain ⟨its, r, pl, _⟩ := I.list h
    obtain ⟨o, ho, hc, n, hd⟩ := pl.isList
    exact fin (.inl rfl) ho hc hd r
def rKS (K : PySem.W.Frag) : List V → List V → Hp → VK → Prop := fun vs zs H Q => ∃ (a : Addr) (ks : List Int), vs = [.ref a] ∧ zs = [.ty "int"] ∧ (SqT K H a (ks.map V.int) ∨ SqL K H a (ks.map V.int)) ∧ ks.length < 1000 ∧
  ∀ (up : List Int) (p : Addr), up.Perm ks → up.Pairwise (· ≤ ·) → H p = none → Q (.ref p) (upd H p (.lst (up.map .int)))
theorem cr_sortedKS (room : X.A.units + 9 < cLine) : CallRK X (.builtin "sorted") [Str.ofString "key"] (rKS X.K) := by
  intro pins s σ H xs zs us ws Q I rv rz hw
  obtain ⟨a, ks, rfl, rfl, sq, lim, q⟩ := hw
  obtain rfl := Vals.ref1 rv
  obtain ⟨kf, rfl, ekf⟩ := vals1 rz
  obtain rfl : kf = Value.type "int" := ekf
  refine call_function_entry_kw kind_sorted plain_sorted entry_sorted (ksk_s1 _ _) ?_
  unfold Builtin.«sorted»
  apply wpAny_bind (m := checkCount "sorted" 1 1 _)
  apply wpAny_pure
  apply wpAny_bind
  refine collect_any I sq lim fun its hp1 old are => ?_
  have glen : its.length = ks.length := by rw [(vals_of_ints are).length.symm, List.length_map]
  have I1 : Inv X pins σ H { s with heap := hp1, toks := s.toks } := I.kept old
  apply wpAny_bind
  refine wpAny_newList ?_ (by rw [glen, sizeLine_eq]; omega)
  let hp2 := hp1.push (seqObj "list" its.toArray 0)
  have here : hp2.get? hp1.objs.size = some (seqObj "list" its.toArray 0) := Heap.get?_push_size _ rfl
  show wpAny _ _ _ _ _ { s with heap := hp2 }
  apply wpAny_bind
  apply wpAny_holding
  refine wpAny_call_entry_kw slot_list_sort ⟨_, here, rfl⟩ entry_list_sort ?_ (ksk_l1 _ _)
  show wpAny _ _ (ksk_tree hp1.objs.size (.type "int") false) _ _ _
  have each := each_ints are
  have int_of : ∀ {d : PyData}, d ∈ ks.map PyData.int → ∃ x, d = .int x := fun m => by
    obtain ⟨x, _, e⟩ := List.mem_map.mp m
    exact ⟨x, e.symm⟩
  refine PySem.W.keyH_tree (s := { s with heap := hp2 }) (kz := ks.map PyData.int) (vs := its) here (by rw [List.length_map, glen]) (by rw [glen, sizeLine_eq]; omega) (fun d hd d' hd' => ?_) (.inr fun d hd => ?_) (fun d hd => ?_)
    (PySem.W.keyH_turns (k := PyData.int) each fun v x isx _ hp3 tk3 _ => ?_) fun hp3 tk3 out c kept ko sorted => ⟨_, rfl, ?_⟩
  · obtain ⟨x, rfl⟩ := int_of hd
    obtain ⟨y, rfl⟩ := int_of hd'
    rfl
  · obtain ⟨x, rfl⟩ := int_of hd
    exact ⟨fun z => (by cases z), fun _ z => (by cases z)⟩
  · obtain ⟨x, rfl⟩ := int_of hd
    show X.A.units + 1 + 1 + 0 < cLine
    omega
  · obtain ⟨t, rfl⟩ := isx
    exact call_int_int ⟨hp3, tk3, rfl, fun _ _ z => z, .int x t⟩
  · have outs := ints_of_each (PySem.W.keyedOut_each (rev := false) PyData.int sorted each)
    have perm : (ks.mergeSort (PySem.W.dataLe false PyData.int)).Perm ks := List.mergeSort_perm _ _
    have le := le_of_merge (ks := ks)
    generalize ks.mergeSort (PySem.W.dataLe false PyData.int) = up at outs perm le
    have few : (up.map V.int).length ≤ sizeLine := by rw [List.length_map, perm.length_eq, sizeLine_eq]; omega
    have older : ∀ b u, hp1.get? b = some u → hp3.get? b = some u := fun b u z => kept b u (Nat.ne_of_lt (Heap.lt_size z)) (Heap.get?_push_of_some _ z)
    apply wpAny_pure
    refine ⟨_, rfl, .ref hp1.objs.size, upd H hp1.objs.size (.lst (up.map V.int)), I1.laid (t' := tk3) older (Nat.le_refl _) ?_, rfl, q up _ perm le (I1.hok.fresh (Nat.le_refl _))⟩
    exact ⟨few, out, c, vals_of_ints outs, ko⟩
end
end L2.Tr

/-! sorted(xs, key=int) of a list or tuple of ints, on trees. -/
namespace L2.Tr
open PySem PySem.Spec PyProof.Rows
section
variable {X : Cx} {e : Expr} {t : TE} {φ : Env → Option D} {pos p p2 kp : Pos}
def sortS : D → Option (List D)
  | .seq _ ds => (intsOf ds).bind fun is => if is.length < 1000 then some ((upI is).map intD) else none
  | _ => none
theorem ow_sortS (hu : X.A.units + 9 < cLine) (hg : Gl X "sorted") (hm : X.mg "sorted" = none) (hgi : PE X (.Name "int" p2) (tC (.ty "int"))) (h : PuD X e t φ)
    (he : backTo pos (starEach [e] X.env) = (false, eval e X.env) :: backTo pos (starEach [] X.env) := by rfl) (hs : starEach [e] X.env = [(false, eval e X.env)] := by rfl) (hpl : (backTo pos (starEach [e] X.env)).any (·.1) = false := by rfl)
    (hall : (backToKw pos (keywordEach [⟨some "key", .Name "int" p2, kp⟩] X.env)).all (·.1.isSome) = true := by rfl) (hnone : (backToKw pos (keywordEach [⟨some "key", .Name "int" p2, kp⟩] X.env)).any (·.1.isNone) = false := by rfl) (hks : (backToKw pos (keywordEach [⟨some "key", .Name "int" p2, kp⟩] X.env)).filterMap (·.1) = [Str.ofString "key"] := by rfl) :
    OwD X (.Call (.Name "sorted" p) [e] [⟨some "key", .Name "int" p2, kp⟩] pos) (tCKw (rKS X.K) (tCons t tNil) (tCons (tC (.ty "int")) tNil)) (fun ρ => (φ ρ).bind sortS) := by
  refine ⟨pe_callBK (cr_sortedKS hu) hg hm (by decide +kernel) (pa_cons h.pe pa_nil hs) (pk_cons hgi pk_nil) (by decide) (by decide) he hpl hall hnone hks, fun ρ z ee G H σ x Q k => ?_⟩
  obtain ⟨d, e1, e2⟩ := Option.bind_eq_some_iff.mp ee
  refine h.ev ρ d e1 G H σ x _ fun v G1 H1 f1 r1 => ?_
  unfold sortS at e2
  split at e2
  · rename_i b ds
    obtain ⟨is, h1, h2⟩ := Option.bind_eq_some_iff.mp e2
    obtain rfl := ints_un h1
    split at h2
    · rename_i hl
      cases h2
      obtain ⟨a, us, rfl, hd, l0, rs⟩ := r1.un_sq
      obtain rfl := rs.un_lfs
      have hd := f1.gh _ _ hd
      refine ⟨a, is, rfl, rfl, ?_, hl, fun ys q hp hle nq => ?_⟩
      · cases b with
        | true => exact .inr (SqL.of hd)
        | false => exact .inl (SqT.of hd)
      · obtain rfl := upI_of hp hle
        exact k q _ G1 _ (f1.trans (.tmp f1.gh nq)) (f1.ne nq) (f1.gh.back nq) upd_same (by rw [List.length_map, (upI_perm is).length_eq]; have : Lim = 5000 := rfl; omega) (reps_ints _)
    · cases h2
  · cases e2
end
end L2.Tr

/-! a < b < c as a value. -/
namespace L2.Tr
open PySem PySem.Spec PyProof.Rows
section
variable {X : Cx} {a b c : Expr} {ta tb tc : TE} {φa φb φc : Env → Option D} {pos : Pos}
theorem pu_chain {op op' : CmpOp} {r r' : R2} {o o' : D → D → Option D} (ho : OpR X (compareOp op) r) (ho' : OpR X (compareOp op') r') (hd : R2D r o) (hd' : R2D r' o') (ha : ViD X a ta φa) (hb : ViD X b tb φb) (hc : ViD X c tc φc)
    (hm : lastMarks [op, op'] [b, c] = false := by with_unfolding_all rfl) : PuD X (.Compare a [op, op'] [b, c] pos) (tChain r r' ta tb tc) (chainF o o' φa φb φc) := ⟨pe_chain ho ho' ha.pe hb.pe hc.pe hm, chain_ev hd hd' ha.ev hb.ev hc.ev⟩
end
end L2.Tr

/-! list(range(a, b)). -/
namespace L2.Tr
open PySem PySem.Spec PyProof.Rows
section
variable {X : Cx} {a b : Expr} {ta tb : TE} {φa φb : Env → Option D} {p p1 pos pos1 : Pos}
def rngS : D → D → Option (List D)
  | .leaf (.int i), .leaf (.int j) => if -1000 ≤ i ∧ i ≤ 1000 ∧ -1000 ≤ j ∧ j ≤ 1000 then some (range2L i j) else none
  | _, _ => none
theorem ow_listRg (hc : X.calm = true) (hg : Gl X "list") (hm : X.mg "list" = none) (hg1 : Gl X "range") (hm1 : X.mg "range" = none) (ha : PuD X a ta φa) (hb : PuD X b tb φb)
    (na : starEach [a, b] X.env = (false, eval a X.env) :: starEach [b] X.env := by rfl) (nb : starEach [b] X.env = (false, eval b X.env) :: starEach [] X.env := by rfl) (hp : (backTo pos1 (starEach [b] X.env)).any (·.1) = false := by rfl)
    (nl : starEach [.Call (.Name "range" p1) [a, b] [] pos1] X.env = (false, eval (.Call (.Name "range" p1) [a, b] [] pos1) X.env) :: starEach [] X.env := by rfl) :
    OwD X (.Call (.Name "list" p) [.Call (.Name "range" p1) [a, b] [] pos1] [] pos) (tLstRg (tRg2 ta tb)) (bin2 rngS φa φb) := by
  refine ⟨pe_listRg hc hg hm (prg_2 hg1 hm1 ha.pe hb.pe na nb hp) nl, fun ρ z ee G H σ x Q k => ?_⟩
  obtain ⟨d1, e1, e2⟩ := Option.bind_eq_some_iff.mp ee
  obtain ⟨d2, e3, e4⟩ := Option.bind_eq_some_iff.mp e2
  refine ha.ev ρ d1 e1 G H σ x _ fun v1 G1 H1 f1 r1 => ?_
  refine hb.ev ρ d2 e3 G1 H1 σ (x.mono f1) _ fun v2 G2 H2 f2 r2 => ?_
  unfold rngS at e4
  split at e4
  · rename_i i j
    split at e4
    · rename_i c
      cases e4
      obtain ⟨rfl, _⟩ := r1.un_lf
      obtain ⟨rfl, _⟩ := r2.un_lf
      refine ⟨i, j, rfl, rfl, ⟨by omega, by omega, by omega, by omega, by omega⟩, fun q nq => ?_⟩
      have f := f1.trans f2
      have e : range2L i j = (rgV i j).map D.leaf := by
        unfold range2L rgV
        rw [List.map_map]; rfl
      refine k q _ G2 _ (f.trans (.tmp f2.gh nq)) (f.ne nq) (f2.gh.back nq) upd_same ?_ ?_
      · rw [e, List.length_map, rgV_length]; have : Lim = 5000 := rfl; omega
      · rw [e]
        exact Reps.lfs fun v hv => by
          unfold rgV at hv
          obtain ⟨n, _, rfl⟩ := List.mem_map.mp hv
          rfl
    · cases e4
  · cases e4
def powD : D → D → Option D
  | .leaf (.int i), .leaf (.int j) => if 0 ≤ j ∧ j ≤ 1000000 ∧ i.natAbs < 2 ^ 64 then some (.leaf (.int (i ^ j.toNat))) else none
  | _, _ => none
theorem r2_pow : R2D (rI CPow fun i j => .int (i ^ j.toNat)) powD := fun d1 d2 z ee G H v1 v2 x r1 r2 Q k => by
  unfold powD at ee
  split at ee
  · rename_i i j
    split at ee
    · rename_i hj
      cases ee
      obtain ⟨rfl, _⟩ := r1.lf
      obtain ⟨rfl, _⟩ := r2.lf
      exact ⟨i, j, rfl, rfl, hj, k _ G H (.refl x) (.lf rfl)⟩
    · cases ee
  · cases ee
theorem pu_pow {φa φb : Env → Option D} (ha : ViD X a ta φa) (hb : ViD X b tb φb) : PuD X (.BinOp a .Pow b pos) (tOp (rI CPow fun i j => .int (i ^ j.toNat)) ta tb) (bin2 powD φa φb) := pu_op op_pow r2_pow ha hb
end
end L2.Tr

/-! a, b = a list. -/
namespace L2.Tr
open PySem PySem.Spec PyProof.Rows
section
variable {X : Cx} {es : List Expr} {pos : Pos}
def lstT (n : Nat) (τ : List D → Env → Option Env) : D → Env → Option Env := fun d ρ => match d with
  | .seq true ds => if ds.length = n then τ ds ρ else none
  | _ => none
theorem tg_lst {k : Nat} {n : Nat} {gs : TGs} {τ : List D → Env → Option Env} (hc : X.calm = true) (h : TgsD X es gs τ) (hn : (assignEach es X.env).length = n := by rfl) (hst : (assignEach es X.env).findIdx? (·.1) = none := by rfl) :
    TgD X (.Tuple es k pos) (gLst X.K n gs) (lstT n τ) := ⟨pg_lst hc h.pg hn hst, fun d ρ ρ2 e G H σ v x r Q k => by
  unfold lstT at e
  split at e
  · rename_i ds
    split at e
    · rename_i hl
      obtain ⟨a, us, rfl, h1, _, q⟩ := r.un_sq
      exact ⟨a, us, rfl, SqL.of (x.gh _ _ h1), by rw [q.len]; exact hl, h.ev ds ρ ρ2 e G H σ us x q Q k⟩
    · cases e
  · cases e⟩
end
end L2.Tr

namespace L2.K1
open PySem PySem.Spec PyProof.Rows L2.Tr
def top (i : Nat) : Stmt := PySem.Challenge.pw_toldthere_k03_looks_found.main.body.getD i (.Pass ⟨0, 0, 0, 0⟩)
section
variable {P : Program} {w : World} {K : PySem.W.Frag} {mg : Str → Option Value} {base : Heap}
abbrev sCount : Stmt := top 39
abbrev nCount : List Str := ["axes", "count", "axis"]
theorem scCount : FnScope nCount ["axes"] (defScope sCount) := ⟨rfl, rfl, rfl, by decide +kernel, rfl, by decide +kernel, by decide +kernel⟩
def FCount : L2.Tr.Env → Option Out := (seqF (asgF (kD (.leaf (.int 1))) (setF 1)) (seqF (forF (seqsF (atP 0)) (setF 2) (asgF (bin2 mulD (atP 1) (app1 lenA (consD (atP 2) nilD))) (setF 1))) (retF (atP 1))))
def fCount (ds : List D) : Option D := if ds.length = (["axes"] : List Str).length then runF nCount.length (FCount ) ds else none
theorem okCount {f : Addr} {fd : FuncData} (F : Fun K "_count" "_count" sCount f fd) (B : TxB2 mg) : FnOk P w K mg base CX0 1 f fd ["axes"] (spP (fCount )) :=
  ok_def (N := nCount) (Φ := FCount ) F scCount fun cdv A outer s H E hr => ⟨_, (ss_cons (sd_nm (pu_c pe_int rfl) (fun h => ps_set (i := 1) scCount.nd rfl (by first | exact Or.inl rfl | exact Or.inr rfl) h)) (ss_cons (sd_for PassesOwn.never rfl (it_seq (pu_var (pv 0))) (tg_name (pg_name (i := 2) scCount.nd rfl (by first | exact Or.inl rfl | exact Or.inr rfl))) (ss_one (sd_nm (pu_mul (PuD.vi (pu_var (pv 1))) (PuD.vi (pu_cb (CallR.or call_len call_lenD) (R1D.or r1_len r1_lenK) (by rfl) B.z_len (by decide +kernel) (av_cons (PuD.vi (pu_var (pv 2))) av_nil)))) (fun h => ps_set (i := 1) scCount.nd rfl (by first | exact Or.inl rfl | exact Or.inr rfl) h)))) (ss_one (sd_ret (pu_var (pv 1))))))⟩
abbrev sFIn : Stmt := top 40
abbrev nFIn : List Str := ["axes", "at", "things", "inner", "digits", "thing"]
theorem scFIn : FnScope nFIn ["axes", "at", "things"] (defScope sFIn) := ⟨rfl, rfl, rfl, by decide +kernel, rfl, by decide +kernel, by decide +kernel⟩
def FFIn : L2.Tr.Env → Option Out := (seqF (asgF (app1 fCount (consD (orE (mapS (slF slO (atP 0) (partF (bin2 addD (atP 1) (kD (.leaf (.int 1))))) (fun _ => some none))) (slF slT (atP 0) (partF (bin2 addD (atP 1) (kD (.leaf (.int 1))))) (fun _ => some none))) nilD)) (setF 3)) (seqF (asgF (mapS (lcF [5] (seqsF (bin2 ixD (atP 0) (atP 1))) (setF 5) yesF (ifF (asBF (bin2 (inD false) (atP 5) (atP 2))) (bin2 mulSD (kD (.leaf (.str "1"))) (atP 3)) (bin2 mulSD (kD (.leaf (.str "0"))) (atP 3))))) (setF 4)) (retF (app1 int2D (consD (bin2 mulSD (bin2 joinD (kD (.leaf (.str ""))) (atP 4)) (app1 fCount (consD (orE (mapS (slF slO (atP 0) (fun _ => some none) (partF (atP 1)))) (slF slT (atP 0) (fun _ => some none) (partF (atP 1)))) nilD))) (consD (kD (.leaf (.int 2))) nilD))))))
def fFIn (ds : List D) : Option D := if ds.length = (["axes", "at", "things"] : List Str).length then runF nFIn.length (FFIn ) ds else none
theorem okFIn {f : Addr} {fd : FuncData} (F : Fun K "_found_in" "_found_in" sFIn f fd) (B : TxB2 mg) (hCt : Fn P w K mg base "_count" 1 1 fCount) : FnOk P w K mg base CX0 2 f fd ["axes", "at", "things"] (spP (fFIn )) :=
  ok_def (N := nFIn) (Φ := FFIn ) F scFIn fun cdv A outer s H E hr => ⟨_, (ss_cons (sd_nm (pu_call hCt (hr.mono (by first | decide | omega)) (by rfl) (ar_cons (PuD.or (OwD.pu (ow_sl (PuD.vi (pu_var (pv 0))) (so_some (pu_add (PuD.vi (pu_var (pv 1))) (PuD.vi (pu_c pe_int rfl)))) so_none)) (pu_slT (PuD.vi (pu_var (pv 0))) (so_some (pu_add (PuD.vi (pu_var (pv 1))) (PuD.vi (pu_c pe_int rfl)))) so_none)) ar_nil)) (fun h => ps_set (i := 3) scFIn.nd rfl (by first | exact Or.inl rfl | exact Or.inr rfl) h)) (ss_cons (sd_set (OwD.pu (LcD.ow (lc0 [("thing", 5)] (it_seq (pu_ix (PuD.vi (pu_var (pv 0))) (PuD.vi (pu_var (pv 1))) (fun _ _ => rfl))) (blkOk_by (N := nFIn) (sc := defScope sFIn) (by decide +kernel)) (fun _ _ _ _ _ => (tg_name (pg_name (i := 5) scFIn.nd rfl (Or.inl rfl)))) (fun _ _ _ _ _ => (tw_name (by decide))) (fun _ _ _ _ _ => (pu_if (te_cmp op_in_seq r2_in (by with_unfolding_all rfl) (PuD.vi (pu_var (pv 5))) (PuD.vi (pu_var (pv 2)))) (pu_repS (PuD.vi (pu_c pe_str (by decide +kernel))) (PuD.vi (pu_var (pv 3)))) (pu_repS (PuD.vi (pu_c pe_str (by decide +kernel))) (PuD.vi (pu_var (pv 3))))))) rfl scFIn.nd)) (LcD.set (i := 4) (lc0 [("thing", 5)] (it_seq (pu_ix (PuD.vi (pu_var (pv 0))) (PuD.vi (pu_var (pv 1))) (fun _ _ => rfl))) (blkOk_by (N := nFIn) (sc := defScope sFIn) (by decide +kernel)) (fun _ _ _ _ _ => (tg_name (pg_name (i := 5) scFIn.nd rfl (Or.inl rfl)))) (fun _ _ _ _ _ => (tw_name (by decide))) (fun _ _ _ _ _ => (pu_if (te_cmp op_in_seq r2_in (by with_unfolding_all rfl) (PuD.vi (pu_var (pv 5))) (PuD.vi (pu_var (pv 2)))) (pu_repS (PuD.vi (pu_c pe_str (by decide +kernel))) (PuD.vi (pu_var (pv 3)))) (pu_repS (PuD.vi (pu_c pe_str (by decide +kernel))) (PuD.vi (pu_var (pv 3))))))) rfl scFIn.nd rfl rfl (sw_true rfl rfl rfl (by decide +kernel)))) (ss_one (sd_ret (pu_cty call_int_two r1_int2 (by rfl) B.z_int (by decide +kernel) (av_cons (PuD.vi (pu_repS (PuD.vi (pu_join (pu_c pe_str (by decide +kernel)) (pu_var (pv 4)))) (PuD.vi (pu_call hCt (hr.mono (by first | decide | omega)) (by rfl) (ar_cons (PuD.or (OwD.pu (ow_sl (PuD.vi (pu_var (pv 0))) so_none (so_some (pu_var (pv 1))))) (pu_slT (PuD.vi (pu_var (pv 0))) so_none (so_some (pu_var (pv 1))))) ar_nil))))) (av_cons (PuD.vi (pu_c pe_int rfl)) av_nil)))))))⟩
abbrev sFSame : Stmt := top 41
abbrev nFSame : List Str := ["axes", "first", "second", "between", "inner", "digits", "one", "other"]
theorem scFSame : FnScope nFSame ["axes", "first", "second"] (defScope sFSame) := ⟨rfl, rfl, rfl, by decide +kernel, rfl, by decide +kernel, by decide +kernel⟩
def FFSame : L2.Tr.Env → Option Out := (seqF (asgF (tupDisp (consD (app1 fCount (consD (orE (mapS (slF slO (atP 0) (partF (bin2 addD (atP 1) (kD (.leaf (.int 1))))) (partF (atP 2)))) (slF slT (atP 0) (partF (bin2 addD (atP 1) (kD (.leaf (.int 1))))) (partF (atP 2)))) nilD)) (consD (app1 fCount (consD (orE (mapS (slF slO (atP 0) (partF (bin2 addD (atP 2) (kD (.leaf (.int 1))))) (fun _ => some none))) (slF slT (atP 0) (partF (bin2 addD (atP 2) (kD (.leaf (.int 1))))) (fun _ => some none))) nilD)) nilD))) (tupT 2 (consT (setF 3) (consT (setF 4) nilT)))) (seqF (asgF (mapS (lcF [6] (seqsF (bin2 ixD (atP 0) (atP 1))) (setF 6) yesF (bin2 mulSD (bin2 joinD (kD (.leaf (.str ""))) (mapS (lcF [7] (seqsF (bin2 ixD (atP 0) (atP 2))) (setF 7) yesF (ifF (asBF (bin2 (scD false) (atP 6) (atP 7))) (bin2 mulSD (kD (.leaf (.str "1"))) (atP 4)) (bin2 mulSD (kD (.leaf (.str "0"))) (atP 4)))))) (atP 3)))) (setF 5)) (retF (app1 int2D (consD (bin2 mulSD (bin2 joinD (kD (.leaf (.str ""))) (atP 5)) (app1 fCount (consD (orE (mapS (slF slO (atP 0) (fun _ => some none) (partF (atP 1)))) (slF slT (atP 0) (fun _ => some none) (partF (atP 1)))) nilD))) (consD (kD (.leaf (.int 2))) nilD))))))
def fFSame (ds : List D) : Option D := if ds.length = (["axes", "first", "second"] : List Str).length then runF nFSame.length (FFSame ) ds else none
theorem okFSame {f : Addr} {fd : FuncData} (F : Fun K "_found_same" "_found_same" sFSame f fd) (B : TxB2 mg) (hCt : Fn P w K mg base "_count" 1 1 fCount) : FnOk P w K mg base CX0 2 f fd ["axes", "first", "second"] (spP (fFSame )) :=
  ok_def (N := nFSame) (Φ := FFSame ) F scFSame fun cdv A outer s H E hr => ⟨_, (ss_cons (sd_asg (pu_tup (ar_cons (pu_call hCt (hr.mono (by first | decide | omega)) (by rfl) (ar_cons (PuD.or (OwD.pu (ow_sl (PuD.vi (pu_var (pv 0))) (so_some (pu_add (PuD.vi (pu_var (pv 1))) (PuD.vi (pu_c pe_int rfl)))) (so_some (pu_var (pv 2))))) (pu_slT (PuD.vi (pu_var (pv 0))) (so_some (pu_add (PuD.vi (pu_var (pv 1))) (PuD.vi (pu_c pe_int rfl)))) (so_some (pu_var (pv 2))))) ar_nil)) (ar_cons (pu_call hCt (hr.mono (by first | decide | omega)) (by rfl) (ar_cons (PuD.or (OwD.pu (ow_sl (PuD.vi (pu_var (pv 0))) (so_some (pu_add (PuD.vi (pu_var (pv 2))) (PuD.vi (pu_c pe_int rfl)))) so_none)) (pu_slT (PuD.vi (pu_var (pv 0))) (so_some (pu_add (PuD.vi (pu_var (pv 2))) (PuD.vi (pu_c pe_int rfl)))) so_none)) ar_nil)) ar_nil))) (tg_tup rfl (tgs_cons (tg_name (pg_name (i := 3) scFSame.nd rfl (by first | exact Or.inl rfl | exact Or.inr rfl))) (tgs_cons (tg_name (pg_name (i := 4) scFSame.nd rfl (by first | exact Or.inl rfl | exact Or.inr rfl))) tgs_nil)))) (ss_cons (sd_set (OwD.pu (LcD.ow (lc0 [("one", 6)] (it_seq (pu_ix (PuD.vi (pu_var (pv 0))) (PuD.vi (pu_var (pv 1))) (fun _ _ => rfl))) (blkOk_by (N := nFSame) (sc := defScope sFSame) (by decide +kernel)) (fun _ _ _ _ _ => (tg_name (pg_name (i := 6) scFSame.nd rfl (by first | exact Or.inl rfl | exact Or.inr rfl)))) (fun _ _ _ _ _ => (tw_name (by decide))) (fun _ _ _ _ _ => (pu_repS (PuD.vi (pu_join (pu_c pe_str (by decide +kernel)) (OwD.pu (LcD.ow (lc0 [("other", 7)] (it_seq (pu_ix (PuD.vi (pu_var (pv 0))) (PuD.vi (pu_var (pv 2))) (fun _ _ => rfl))) (blkOk_by (N := nFSame) (sc := { kind := .function, names := [(".0", .local), ("one", .cell), ("axes", .cell), ("between", .cell), ("inner", .cell), ("second", .cell)], isGenerator := false, isCoroutine := false }) (scope := { kind := .function, names := [(".0", .local), ("other", .local), ("inner", .free), ("one", .free)], isGenerator := false, isCoroutine := false }) (own := [("other", 7)]) (by decide +kernel)) (fun _ _ _ _ _ => (tg_name (pg_name (i := 7) scFSame.nd rfl (Or.inl rfl)))) (fun _ _ _ _ _ => (tw_name (by decide))) (fun _ _ _ _ _ => (pu_if (te_cmp op_eq r2_eqS (nomark _) (PuD.vi (pu_var (pv 6))) (PuD.vi (pu_var (pv 7)))) (pu_repS (PuD.vi (pu_c pe_str (by decide +kernel))) (PuD.vi (pu_var (pv 4)))) (pu_repS (PuD.vi (pu_c pe_str (by decide +kernel))) (PuD.vi (pu_var (pv 4))))))) rfl scFSame.nd)))) (PuD.vi (pu_var (pv 3)))))) rfl scFSame.nd)) (LcD.set (i := 5) (lc0 [("one", 6)] (it_seq (pu_ix (PuD.vi (pu_var (pv 0))) (PuD.vi (pu_var (pv 1))) (fun _ _ => rfl))) (blkOk_by (N := nFSame) (sc := defScope sFSame) (by decide +kernel)) (fun _ _ _ _ _ => (tg_name (pg_name (i := 6) scFSame.nd rfl (by first | exact Or.inl rfl | exact Or.inr rfl)))) (fun _ _ _ _ _ => (tw_name (by decide))) (fun _ _ _ _ _ => (pu_repS (PuD.vi (pu_join (pu_c pe_str (by decide +kernel)) (OwD.pu (LcD.ow (lc0 [("other", 7)] (it_seq (pu_ix (PuD.vi (pu_var (pv 0))) (PuD.vi (pu_var (pv 2))) (fun _ _ => rfl))) (blkOk_by (N := nFSame) (sc := { kind := .function, names := [(".0", .local), ("one", .cell), ("axes", .cell), ("between", .cell), ("inner", .cell), ("second", .cell)], isGenerator := false, isCoroutine := false }) (scope := { kind := .function, names := [(".0", .local), ("other", .local), ("inner", .free), ("one", .free)], isGenerator := false, isCoroutine := false }) (own := [("other", 7)]) (by decide +kernel)) (fun _ _ _ _ _ => (tg_name (pg_name (i := 7) scFSame.nd rfl (Or.inl rfl)))) (fun _ _ _ _ _ => (tw_name (by decide))) (fun _ _ _ _ _ => (pu_if (te_cmp op_eq r2_eqS (nomark _) (PuD.vi (pu_var (pv 6))) (PuD.vi (pu_var (pv 7)))) (pu_repS (PuD.vi (pu_c pe_str (by decide +kernel))) (PuD.vi (pu_var (pv 4)))) (pu_repS (PuD.vi (pu_c pe_str (by decide +kernel))) (PuD.vi (pu_var (pv 4))))))) rfl scFSame.nd)))) (PuD.vi (pu_var (pv 3)))))) rfl scFSame.nd rfl rfl (sw_true rfl rfl rfl (by decide +kernel)))) (ss_one (sd_ret (pu_cty call_int_two r1_int2 (by rfl) B.z_int (by decide +kernel) (av_cons (PuD.vi (pu_repS (PuD.vi (pu_join (pu_c pe_str (by decide +kernel)) (pu_var (pv 5)))) (PuD.vi (pu_call hCt (hr.mono (by first | decide | omega)) (by rfl) (ar_cons (PuD.or (OwD.pu (ow_sl (PuD.vi (pu_var (pv 0))) so_none (so_some (pu_var (pv 1))))) (pu_slT (PuD.vi (pu_var (pv 0))) so_none (so_some (pu_var (pv 1))))) ar_nil))))) (av_cons (PuD.vi (pu_c pe_int rfl)) av_nil)))))))⟩
abbrev sLInit : Stmt := inClass (top 31) 0
abbrev nLInit : List Str := ["self", "columns", "steps"]
theorem scLInit : FnScope nLInit ["self", "columns", "steps"] (defScope sLInit) := ⟨rfl, rfl, rfl, by decide +kernel, rfl, by decide +kernel, by decide +kernel⟩
def FLInit (C3 : Addr) : L2.Tr.Env → Option Out := (seqF (sfldF 0 C3 "columns" (atP 1)) (sfldF 0 C3 "steps" (atP 2)))
def fLInit (C3 : Addr) (ds : List D) : Option (List Str × List D) := if ds.length + 1 = (["self", "columns", "steps"] : List Str).length then initF nLInit.length C3 (FLInit C3 ) ds else none
theorem okLInit {f : Addr} {fd : FuncData} {dvs : List V} {kws : List (Str × V)} (C3 : Addr) (F : FunD K "__init__" "Look.__init__" (defArgs sLInit) (defBody sLInit) (defScope sLInit) dvs kws f fd) (B : TxB2 mg) (clL : Cls K C3) (m1 : NoAttr K C3 "columns") (m2 : NoAttr K C3 "steps") : FnOk P w K mg base CX0 2 f fd ["self", "columns", "steps"] (spI C3 (fLInit C3 )) :=
  ok_init (n0 := "self") (N := ["columns", "steps"]) (C := C3) (Φ := FLInit C3 ) F scLInit fun cdv A outer s H E hr => ⟨_, (ss_cons (sd_fld (i := 0) clL m1 (pv 0) (pu_var (pv 1))) (ss_one (sd_fld (i := 0) clL m2 (pv 0) (pu_var (pv 2)))))⟩
abbrev sFound : Stmt := inClass (top 31) 2
abbrev nFound : List Str := ["self", "axes", "all_points", "stack", "step", "kind", "first", "second"]
theorem scFound : FnScope nFound ["self", "axes"] (defScope sFound) := ⟨rfl, rfl, rfl, by decide +kernel, rfl, by decide +kernel, by decide +kernel⟩
def FFound (C3 : Addr) : L2.Tr.Env → Option Out := (seqF (asgF (bin2 (intI fun i j => .int (i - j)) (bin2 shlD (kD (.leaf (.int 1))) (app1 fCount (consD (atP 1) nilD))) (kD (.leaf (.int 1)))) (setF 2)) (seqF (asgO 3 (lstDisp nilD)) (seqF (forF (seqsF (fldF C3 "steps" (atP 0))) (setF 4) (seqF (asgF (bin2 ixD (atP 4) (kD (.leaf (.int 0)))) (setF 5)) (ifS (asBF (bin2 (scD false) (atP 5) (kD (.leaf (.str "in"))))) (growF 3 (app1 fFIn (consD (atP 1) (consD (bin2 ixD (atP 4) (kD (.leaf (.int 1)))) (consD (bin2 ixD (atP 4) (kD (.leaf (.int 2)))) nilD)))) fun xs d => xs ++ [d]) (ifS (asBF (bin2 (scD false) (atP 5) (kD (.leaf (.str "same"))))) (seqF (asgF (mapS (fun ρ => ((orE (mapS (slF slO (atP 4) (partF (kD (.leaf (.int 1)))) (fun _ => some none))) (slF slT (atP 4) (partF (kD (.leaf (.int 1)))) (fun _ => some none))) ρ).bind sortS)) (lstT 2 (consT (setF 6) (consT (setF 7) nilT)))) (growF 3 (app1 fFSame (consD (atP 1) (consD (atP 6) (consD (atP 7) nilD)))) fun xs d => xs ++ [d])) (ifS (asBF (bin2 (scD false) (atP 5) (kD (.leaf (.str "any"))))) (growF 3 (atP 2) fun xs d => xs ++ [d]) (ifS (asBF (bin2 (scD false) (atP 5) (kD (.leaf (.str "not"))))) (popLF 3 (fun i j => .int (Builtin.bitXor i j)) (atP 2)) (ifS (asBF (bin2 (scD false) (atP 5) (kD (.leaf (.str "and"))))) (popBF 3 (fun i j => .int (Builtin.bitAnd i j))) (popBF 3 (fun i j => .int (Builtin.bitOr i j)))))))))) (retF (bin2 ixD (atV 3) (kD (.leaf (.int 0))))))))
def fFound (C3 : Addr) (ds : List D) : Option D := if ds.length = (["self", "axes"] : List Str).length then runF nFound.length (FFound C3 ) ds else none
theorem okFound {f : Addr} {fd : FuncData} (C3 : Addr) (F : Fun K "found" "Look.found" sFound f fd) (B : TxB2 mg) (clL : Cls K C3) (m1 : NoAttr K C3 "columns") (m2 : NoAttr K C3 "steps") (hCt : Fn P w K mg base "_count" 1 1 fCount) (hFi : Fn P w K mg base "_found_in" 2 3 fFIn) (hFs : Fn P w K mg base "_found_same" 2 3 fFSame) : FnOk P w K mg base CX0 3 f fd ["self", "axes"] (spP (fFound C3 )) :=
  ok_def (N := nFound) (Φ := FFound C3 ) F scFound fun cdv A outer s H E hr => ⟨_, (ss_cons (sd_nm (pu_sub (PuD.vi (pu_shl (PuD.vi (pu_c pe_int rfl)) (PuD.vi (pu_call hCt (hr.mono (by first | decide | omega)) (by rfl) (ar_cons (pu_var (pv 1)) ar_nil))))) (PuD.vi (pu_c pe_int rfl))) (fun h => ps_set (i := 2) scFound.nd rfl (by first | exact Or.inl rfl | exact Or.inr rfl) h)) (ss_cons (sd_nmO (ow_lst ar_nil) (fun h => ps_set (i := 3) scFound.nd rfl (by first | exact Or.inl rfl | exact Or.inr rfl) h)) (ss_cons (sd_for PassesOwn.never rfl (it_seq (pu_fld clL m2 (PuD.vi (pu_var (pv 0))))) (tg_name (pg_name (i := 4) scFound.nd rfl (by first | exact Or.inl rfl | exact Or.inr rfl))) (ss_cons (sd_nm (pu_ix (PuD.vi (pu_var (pv 4))) (PuD.vi (pu_c pe_int rfl)) (fun _ _ => rfl)) (fun h => ps_set (i := 5) scFound.nd rfl (by first | exact Or.inl rfl | exact Or.inr rfl) h)) (ss_one (sd_if (te_cmp op_eq r2_eqS (nomark _) (PuD.vi (pu_var (pv 5))) (PuD.vi (pu_c pe_str (by decide +kernel)))) (ss_one (sd_appK (i := 3) (pu_call hFi (hr.mono (by first | decide | omega)) (by rfl) (ar_cons (pu_var (pv 1)) (ar_cons (pu_ix (PuD.vi (pu_var (pv 4))) (PuD.vi (pu_c pe_int rfl)) (fun _ _ => rfl)) (ar_cons (pu_ix (PuD.vi (pu_var (pv 4))) (PuD.vi (pu_c pe_int rfl)) (fun _ _ => rfl)) ar_nil)))) (fun h => ps_expr (pe_bm PySem.F.plainAttrs_list PySem.F.slot_list_append PySem.F.type_list_append mt_append (pv 3) (pa_cons h pa_nil))))) (ss_one (sd_if (te_cmp op_eq r2_eqS (nomark _) (PuD.vi (pu_var (pv 5))) (PuD.vi (pu_c pe_str (by decide +kernel)))) (ss_cons (sd_asg (OwD.pu (ow_sortS (hu9 hr) (by rfl) B.z_sorted (pe_bltn (v := .ty "int") (by rfl) B.z_int (by decide +kernel) rfl) (PuD.or (OwD.pu (ow_sl (PuD.vi (pu_var (pv 4))) (so_some (pu_c pe_int rfl)) so_none)) (pu_slT (PuD.vi (pu_var (pv 4))) (so_some (pu_c pe_int rfl)) so_none)))) (tg_lst rfl (tgs_cons (tg_name (pg_name (i := 6) scFound.nd rfl (by first | exact Or.inl rfl | exact Or.inr rfl))) (tgs_cons (tg_name (pg_name (i := 7) scFound.nd rfl (by first | exact Or.inl rfl | exact Or.inr rfl))) tgs_nil)))) (ss_one (sd_appK (i := 3) (pu_call hFs (hr.mono (by first | decide | omega)) (by rfl) (ar_cons (pu_var (pv 1)) (ar_cons (pu_var (pv 6)) (ar_cons (pu_var (pv 7)) ar_nil)))) (fun h => ps_expr (pe_bm PySem.F.plainAttrs_list PySem.F.slot_list_append PySem.F.type_list_append mt_append (pv 3) (pa_cons h pa_nil)))))) (ss_one (sd_if (te_cmp op_eq r2_eqS (nomark _) (PuD.vi (pu_var (pv 5))) (PuD.vi (pu_c pe_str (by decide +kernel)))) (ss_one (sd_appK (i := 3) (pu_var (pv 2)) (fun h => ps_expr (pe_bm PySem.F.plainAttrs_list PySem.F.slot_list_append PySem.F.type_list_append mt_append (pv 3) (pa_cons h pa_nil))))) (ss_one (sd_if (te_cmp op_eq r2_eqS (nomark _) (PuD.vi (pu_var (pv 5))) (PuD.vi (pu_c pe_str (by decide +kernel)))) (ss_one (sd_popL (i := 3) (fun _ _ => rfl) (pu_var (pv 2)) (fun h => ps_expr (pe_bm PySem.F.plainAttrs_list PySem.F.slot_list_append PySem.F.type_list_append mt_append (pv 3) (pa_cons (pe_op op_xor h (pe_bm0 PySem.F.plainAttrs_list PySem.F.slot_list_pop PySem.F.type_list_pop mt_pop (pv 3))) pa_nil))))) (ss_one (sd_if (te_cmp op_eq r2_eqS (nomark _) (PuD.vi (pu_var (pv 5))) (PuD.vi (pu_c pe_str (by decide +kernel)))) (ss_one (sd_popB (i := 3) (fun _ _ => rfl) (ps_expr (pe_bm PySem.F.plainAttrs_list PySem.F.slot_list_append PySem.F.type_list_append mt_append (pv 3) (pa_cons (pe_op op_and (pe_bm0 PySem.F.plainAttrs_list PySem.F.slot_list_pop PySem.F.type_list_pop mt_pop (pv 3)) (pe_bm0 PySem.F.plainAttrs_list PySem.F.slot_list_pop PySem.F.type_list_pop mt_pop (pv 3))) pa_nil))))) (ss_one (sd_popB (i := 3) (fun _ _ => rfl) (ps_expr (pe_bm PySem.F.plainAttrs_list PySem.F.slot_list_append PySem.F.type_list_append mt_append (pv 3) (pa_cons (pe_op op_or (pe_bm0 PySem.F.plainAttrs_list PySem.F.slot_list_pop PySem.F.type_list_pop mt_pop (pv 3)) (pe_bm0 PySem.F.plainAttrs_list PySem.F.slot_list_pop PySem.F.type_list_pop mt_pop (pv 3))) pa_nil))))))))))))))))) (ss_one (sd_ret (pu_ix (vi_var (pv 3)) (PuD.vi (pu_c pe_int rfl)) (fun _ _ => rfl)))))))⟩
abbrev sLCall : Stmt := inClass (top 31) 1
abbrev nLCall : List Str := ["self", "row", "number", "thing"]
theorem scLCall : FnScope nLCall ["self", "row", "number"] (defScope sLCall) := ⟨rfl, rfl, rfl, by decide +kernel, rfl, by decide +kernel, by decide +kernel⟩
def FLCall (C3 : Addr) : L2.Tr.Env → Option Out := (retF (bin2 (scD false) (metF C3 "found" (fFound C3) (atP 0) (consD (mapS (lcF [3] (seqsF (tupDisp (starD (atP 1) (consD (atP 2) nilD)))) (setF 3) yesF (tupDisp (consD (atP 3) nilD)))) nilD)) (kD (.leaf (.int 1)))))
def fLCall (C3 : Addr) (ds : List D) : Option D := if ds.length = (["self", "row", "number"] : List Str).length then runF nLCall.length (FLCall C3 ) ds else none
theorem okLCall {f : Addr} {fd : FuncData} (C3 : Addr) (F : Fun K "__call__" "Look.__call__" sLCall f fd) (B : TxB2 mg) (clL : Cls K C3) (m1 : NoAttr K C3 "columns") (m2 : NoAttr K C3 "steps") (mF : Mth P w K mg base C3 "found" 3 (fFound C3)) : FnOk P w K mg base CX0 4 f fd ["self", "row", "number"] (spP (fLCall C3 )) :=
  ok_def (N := nLCall) (Φ := FLCall C3 ) F scLCall fun cdv A outer s H E hr => ⟨_, (ss_one (sd_ret (pu_cmp op_eq r2_eqS (nomark _) (PuD.vi (pu_meth mF (hr.mono (by first | decide | omega)) (pu_var (pv 0)) (ar_cons (OwD.pu (LcD.ow (lc0 [("thing", 3)] (it_seq (pu_tup (ar_star (pu_var (pv 1)) (ar_cons (pu_var (pv 2)) ar_nil)))) (blkOk_by (N := nLCall) (sc := defScope sLCall) (by decide +kernel)) (fun _ _ _ _ _ => (tg_name (pg_name (i := 3) scLCall.nd rfl (Or.inl rfl)))) (fun _ _ _ _ _ => (tw_name (by decide))) (fun _ _ _ _ _ => (pu_tup (ar_cons (pu_var (pv 3)) ar_nil)))) rfl scLCall.nd)) ar_nil))) (PuD.vi (pu_c pe_int rfl)))))⟩
end
end L2.K1

namespace L2.K1
open PySem PySem.Spec PyProof.Rows L2.Tr
section
variable {P : Program} {w : World} {K : PySem.W.Frag} {mg : Str → Option Value} {base : Heap}
abbrev sJoined : Stmt := top 35
abbrev nJoined : List Str := ["one", "other", "sign"]
theorem scJoined : FnScope nJoined ["one", "other", "sign"] (defScope sJoined) := ⟨rfl, rfl, rfl, by decide +kernel, rfl, by decide +kernel, by decide +kernel⟩
def FJoined (C C3 : Addr) (gE : List D → Option D) : L2.Tr.Env → Option Out := (seqF (ifS (asBF (bin2 (eqOD true C gE) (fldF C3 "columns" (atP 0)) (fldF C3 "columns" (atP 1)))) neverF skipF) (retF (app1 (mkD C3 (fLInit C3)) (consD (fldF C3 "columns" (atP 0)) (consD (tupDisp (starD (fldF C3 "steps" (atP 0)) (starD (fldF C3 "steps" (atP 1)) (consD (tupDisp (consD (atP 2) nilD)) nilD)))) nilD)))))
def fJoined (C C3 : Addr) (gE : List D → Option D) (ds : List D) : Option D := if ds.length = (["one", "other", "sign"] : List Str).length then runF nJoined.length (FJoined C C3 gE ) ds else none
theorem okJoined {f : Addr} {fd : FuncData} (C C3 : Addr) (gE : List D → Option D) (F : Fun K "_joined" "_joined" sJoined f fd) (B : TxB2 mg) (clL : Cls K C3) (m1 : NoAttr K C3 "columns") (m2 : NoAttr K C3 "steps") (mk : Mkr P w K mg base "Look" C3 2 (fLInit C3)) (mE : Eqr P w K mg base C 1 gE) : FnOk P w K mg base CX0 4 f fd ["one", "other", "sign"] (spP (fJoined C C3 gE )) :=
  ok_def (N := nJoined) (Φ := FJoined C C3 gE ) F scJoined fun cdv A outer s H E hr => ⟨_, (ss_cons (sd_if (te_cmp (eqr_ne mE (hr.mono (by first | decide | omega))) r2_eqO (nomark _) (PuD.vi (pu_fld clL m1 (PuD.vi (pu_var (pv 0))))) (PuD.vi (pu_fld clL m1 (PuD.vi (pu_var (pv 1)))))) (ss_one sd_never) ss_nil) (ss_one (sd_ret (pu_make mk (hr.mono (by first | decide | omega)) (by rfl) (ar_cons (pu_fld clL m1 (PuD.vi (pu_var (pv 0)))) (ar_cons (pu_tup (ar_star (pu_fld clL m2 (PuD.vi (pu_var (pv 0)))) (ar_star (pu_fld clL m2 (PuD.vi (pu_var (pv 1)))) (ar_cons (pu_tup (ar_cons (pu_var (pv 2)) ar_nil)) ar_nil)))) ar_nil))))))⟩
abbrev sLAnd : Stmt := inClass (top 31) 3
abbrev nLAnd : List Str := ["self", "other"]
theorem scLAnd : FnScope nLAnd ["self", "other"] (defScope sLAnd) := ⟨rfl, rfl, rfl, by decide +kernel, rfl, by decide +kernel, by decide +kernel⟩
def FLAnd (C C3 : Addr) (gE : List D → Option D) : L2.Tr.Env → Option Out := (retF (app1 (fJoined C C3 gE) (consD (atP 0) (consD (atP 1) (consD (kD (.leaf (.str "and"))) nilD)))))
def fLAnd (C C3 : Addr) (gE : List D → Option D) (ds : List D) : Option D := if ds.length = (["self", "other"] : List Str).length then runF nLAnd.length (FLAnd C C3 gE ) ds else none
theorem okLAnd {f : Addr} {fd : FuncData} (C C3 : Addr) (gE : List D → Option D) (F : Fun K "__and__" "Look.__and__" sLAnd f fd) (B : TxB2 mg) (hJ : Fn P w K mg base "_joined" 4 3 (fJoined C C3 gE)) : FnOk P w K mg base CX0 5 f fd ["self", "other"] (spP (fLAnd C C3 gE )) :=
  ok_def (N := nLAnd) (Φ := FLAnd C C3 gE ) F scLAnd fun cdv A outer s H E hr => ⟨_, (ss_one (sd_ret (pu_call hJ (hr.mono (by first | decide | omega)) (by rfl) (ar_cons (pu_var (pv 0)) (ar_cons (pu_var (pv 1)) (ar_cons (pu_c pe_str (by decide +kernel)) ar_nil))))))⟩
abbrev sLOr : Stmt := inClass (top 31) 4
abbrev nLOr : List Str := ["self", "other"]
theorem scLOr : FnScope nLOr ["self", "other"] (defScope sLOr) := ⟨rfl, rfl, rfl, by decide +kernel, rfl, by decide +kernel, by decide +kernel⟩
def FLOr (C C3 : Addr) (gE : List D → Option D) : L2.Tr.Env → Option Out := (retF (app1 (fJoined C C3 gE) (consD (atP 0) (consD (atP 1) (consD (kD (.leaf (.str "or"))) nilD)))))
def fLOr (C C3 : Addr) (gE : List D → Option D) (ds : List D) : Option D := if ds.length = (["self", "other"] : List Str).length then runF nLOr.length (FLOr C C3 gE ) ds else none
theorem okLOr {f : Addr} {fd : FuncData} (C C3 : Addr) (gE : List D → Option D) (F : Fun K "__or__" "Look.__or__" sLOr f fd) (B : TxB2 mg) (hJ : Fn P w K mg base "_joined" 4 3 (fJoined C C3 gE)) : FnOk P w K mg base CX0 5 f fd ["self", "other"] (spP (fLOr C C3 gE )) :=
  ok_def (N := nLOr) (Φ := FLOr C C3 gE ) F scLOr fun cdv A outer s H E hr => ⟨_, (ss_one (sd_ret (pu_call hJ (hr.mono (by first | decide | omega)) (by rfl) (ar_cons (pu_var (pv 0)) (ar_cons (pu_var (pv 1)) (ar_cons (pu_c pe_str (by decide +kernel)) ar_nil))))))⟩
abbrev sLInv : Stmt := inClass (top 31) 7
abbrev nLInv : List Str := ["self"]
theorem scLInv : FnScope nLInv ["self"] (defScope sLInv) := ⟨rfl, rfl, rfl, by decide +kernel, rfl, by decide +kernel, by decide +kernel⟩
def FLInv (C3 : Addr) : L2.Tr.Env → Option Out := (retF (app1 (mkD C3 (fLInit C3)) (consD (fldF C3 "columns" (atP 0)) (consD (tupDisp (starD (fldF C3 "steps" (atP 0)) (consD (tupDisp (consD (kD (.leaf (.str "not"))) nilD)) nilD))) nilD))))
def fLInv (C3 : Addr) (ds : List D) : Option D := if ds.length = (["self"] : List Str).length then runF nLInv.length (FLInv C3 ) ds else none
theorem okLInv {f : Addr} {fd : FuncData} (C3 : Addr) (F : Fun K "__invert__" "Look.__invert__" sLInv f fd) (B : TxB2 mg) (clL : Cls K C3) (m1 : NoAttr K C3 "columns") (m2 : NoAttr K C3 "steps") (mk : Mkr P w K mg base "Look" C3 2 (fLInit C3)) : FnOk P w K mg base CX0 4 f fd ["self"] (spP (fLInv C3 )) :=
  ok_def (N := nLInv) (Φ := FLInv C3 ) F scLInv fun cdv A outer s H E hr => ⟨_, (ss_one (sd_ret (pu_make mk (hr.mono (by first | decide | omega)) (by rfl) (ar_cons (pu_fld clL m1 (PuD.vi (pu_var (pv 0)))) (ar_cons (pu_tup (ar_star (pu_fld clL m2 (PuD.vi (pu_var (pv 0)))) (ar_cons (pu_tup (ar_cons (pu_c pe_str (by decide +kernel)) ar_nil)) ar_nil))) ar_nil)))))⟩
abbrev sLSub : Stmt := inClass (top 31) 5
abbrev nLSub : List Str := ["self", "other"]
theorem scLSub : FnScope nLSub ["self", "other"] (defScope sLSub) := ⟨rfl, rfl, rfl, by decide +kernel, rfl, by decide +kernel, by decide +kernel⟩
def FLSub (C C3 : Addr) (gE : List D → Option D) : L2.Tr.Env → Option Out := (retF (bin2 (ownBD C3 (fLAnd C C3 gE)) (atP 0) (fun ρ => ((atP 1) ρ).bind (ownUD C3 (fLInv C3)))))
def fLSub (C C3 : Addr) (gE : List D → Option D) (ds : List D) : Option D := if ds.length = (["self", "other"] : List Str).length then runF nLSub.length (FLSub C C3 gE ) ds else none
theorem okLSub {f : Addr} {fd : FuncData} (C C3 : Addr) (gE : List D → Option D) (F : Fun K "__sub__" "Look.__sub__" sLSub f fd) (B : TxB2 mg) (hAnd : BinO P w K mg base C3 "__and__" 5 (fLAnd C C3 gE)) (hInv : BinO P w K mg base C3 "__invert__" 4 (fLInv C3)) : FnOk P w K mg base CX0 6 f fd ["self", "other"] (spP (fLSub C C3 gE )) :=
  ok_def (N := nLSub) (Φ := FLSub C C3 gE ) F scLSub fun cdv A outer s H E hr => ⟨_, (ss_one (sd_ret (pu_ownB hAnd (hr.mono (by first | decide | omega)) (pu_var (pv 0)) (pu_ownU hInv (hr.mono (by first | decide | omega)) (pu_var (pv 1))))))⟩
abbrev sLXor : Stmt := inClass (top 31) 6
abbrev nLXor : List Str := ["self", "other"]
theorem scLXor : FnScope nLXor ["self", "other"] (defScope sLXor) := ⟨rfl, rfl, rfl, by decide +kernel, rfl, by decide +kernel, by decide +kernel⟩
def FLXor (C C3 : Addr) (gE : List D → Option D) : L2.Tr.Env → Option Out := (retF (bin2 (ownBD C3 (fLAnd C C3 gE)) (bin2 (ownBD C3 (fLOr C C3 gE)) (atP 0) (atP 1)) (fun ρ => ((bin2 (ownBD C3 (fLAnd C C3 gE)) (atP 0) (atP 1)) ρ).bind (ownUD C3 (fLInv C3)))))
def fLXor (C C3 : Addr) (gE : List D → Option D) (ds : List D) : Option D := if ds.length = (["self", "other"] : List Str).length then runF nLXor.length (FLXor C C3 gE ) ds else none
theorem okLXor {f : Addr} {fd : FuncData} (C C3 : Addr) (gE : List D → Option D) (F : Fun K "__xor__" "Look.__xor__" sLXor f fd) (B : TxB2 mg) (hAnd : BinO P w K mg base C3 "__and__" 5 (fLAnd C C3 gE)) (hOr : BinO P w K mg base C3 "__or__" 5 (fLOr C C3 gE)) (hInv : BinO P w K mg base C3 "__invert__" 4 (fLInv C3)) : FnOk P w K mg base CX0 6 f fd ["self", "other"] (spP (fLXor C C3 gE )) :=
  ok_def (N := nLXor) (Φ := FLXor C C3 gE ) F scLXor fun cdv A outer s H E hr => ⟨_, (ss_one (sd_ret (pu_ownB hAnd (hr.mono (by first | decide | omega)) (pu_ownB hOr (hr.mono (by first | decide | omega)) (pu_var (pv 0)) (pu_var (pv 1))) (pu_ownU hInv (hr.mono (by first | decide | omega)) (pu_ownB hAnd (hr.mono (by first | decide | omega)) (pu_var (pv 0)) (pu_var (pv 1)))))))⟩
abbrev sEvery : Stmt := top 30
abbrev nEvery : List Str := ["columns"]
theorem scEvery : FnScope nEvery ["columns"] (defScope sEvery) := ⟨rfl, rfl, rfl, by decide +kernel, rfl, by decide +kernel, by decide +kernel⟩
def FEvery (C3 : Addr) : L2.Tr.Env → Option Out := (retF (app1 (mkD C3 (fLInit C3)) (consD (atP 0) (consD (tupDisp (consD (tupDisp (consD (kD (.leaf (.str "any"))) nilD)) nilD)) nilD))))
def fEvery (C3 : Addr) (ds : List D) : Option D := if ds.length = (["columns"] : List Str).length then runF nEvery.length (FEvery C3 ) ds else none
theorem okEvery {f : Addr} {fd : FuncData} (C3 : Addr) (F : Fun K "every" "every" sEvery f fd) (B : TxB2 mg) (mk : Mkr P w K mg base "Look" C3 2 (fLInit C3)) : FnOk P w K mg base CX0 4 f fd ["columns"] (spP (fEvery C3 )) :=
  ok_def (N := nEvery) (Φ := FEvery C3 ) F scEvery fun cdv A outer s H E hr => ⟨_, (ss_one (sd_ret (pu_make mk (hr.mono (by first | decide | omega)) (by rfl) (ar_cons (pu_var (pv 0)) (ar_cons (pu_tup (ar_cons (pu_tup (ar_cons (pu_c pe_str (by decide +kernel)) ar_nil)) ar_nil)) ar_nil)))))⟩
end
end L2.K1

namespace L2.K1
open PySem PySem.Spec PyProof.Rows L2.Tr
section
variable {P : Program} {w : World} {K : PySem.W.Frag} {mg : Str → Option Value} {base : Heap}
abbrev sIsNu : Stmt := top 10
abbrev nIsNu : List Str := ["thing"]
theorem scIsNu : FnScope nIsNu ["thing"] (defScope sIsNu) := ⟨rfl, rfl, rfl, by decide +kernel, rfl, by decide +kernel, by decide +kernel⟩
def FIsNu : L2.Tr.Env → Option Out := (retF (andF (isF isInt (atP 0)) (notF (isF isBool (atP 0)))))
def fIsNu (ds : List D) : Option D := if ds.length = (["thing"] : List Str).length then runF nIsNu.length (FIsNu ) ds else none
theorem okIsNu {f : Addr} {fd : FuncData} (F : Fun K "is_number" "is_number" sIsNu f fd) (B : TxB2 mg) : FnOk P w K mg base CX0 1 f fd ["thing"] (spP (fIsNu )) :=
  ok_def (N := nIsNu) (Φ := FIsNu ) F scIsNu fun cdv A outer s H E hr => ⟨_, (ss_one (sd_ret (pu_andT (pu_isi isT_int (by rfl) B.z_isinstance (by decide +kernel) (PuD.vi (pu_var (pv 0))) (pe_bltn (v := .ty "int") (by rfl) B.z_int (by decide +kernel) rfl)) (pu_one (pu_notT (PuD.vi (pu_isi isT_bool (by rfl) B.z_isinstance (by decide +kernel) (PuD.vi (pu_var (pv 0))) (pe_bltn (v := .ty "bool") (by rfl) B.z_bool (by decide +kernel) rfl))))))))⟩
abbrev sIsW : Stmt := top 11
abbrev nIsW : List Str := ["thing", "letter"]
theorem scIsW : FnScope nIsW ["thing"] (defScope sIsW) := ⟨rfl, rfl, rfl, by decide +kernel, rfl, by decide +kernel, by decide +kernel⟩
def FIsW : L2.Tr.Env → Option Out := (seqF (ifS (orB (notB (truF (isF isStr (atP 0)))) (notB (asBF (chainF (intI fun i j => .bl (decide (i ≤ j))) (intI fun i j => .bl (decide (i ≤ j))) (kD (.leaf (.int 1))) (app1 lenA (consD (atP 0) nilD)) (kD (.leaf (.int 8))))))) (retF (kD (.leaf (.bl false)))) skipF) (retF (app1 allD (consD (mapS (lcF [1] (strsF (atP 0)) (setF 1) yesF (bin2 inSD (atP 1) (kD (.leaf (.str "abcdefghijklmnopqrstuvwxyz")))))) nilD))))
def fIsW (ds : List D) : Option D := if ds.length = (["thing"] : List Str).length then runF nIsW.length (FIsW ) ds else none
theorem okIsW {f : Addr} {fd : FuncData} (F : Fun K "is_word" "is_word" sIsW f fd) (B : TxB2 mg) {tkL0 : Tok} (G_LETTERS : mg "LETTERS" = some (.str "abcdefghijklmnopqrstuvwxyz" tkL0)) {tk80 : Tok} (G_MOST_LETTERS : mg "MOST_LETTERS" = some (.int 8 tk80)) : FnOk P w K mg base CX0 1 f fd ["thing"] (spP (fIsW )) :=
  ok_def (N := nIsW) (Φ := FIsW ) F scIsW fun cdv A outer s H E hr => ⟨_, (ss_cons (sd_if (TwD.te (tw_or (te_not (te_tru (PuD.vi (pu_isi isT_str (by rfl) B.z_isinstance (by decide +kernel) (PuD.vi (pu_var (pv 0))) (pe_bltn (v := .ty "str") (by rfl) B.z_str (by decide +kernel) rfl))) (fun _ => rfl))) (tw_or1 (te_not (te_chain op_le op_le (r2_I0 fun _ _ => rfl) (r2_I0 fun _ _ => rfl) (PuD.vi (pu_c pe_int rfl)) (PuD.vi (pu_cb (CallR.or call_len call_lenD) (R1D.or r1_len r1_lenK) (by rfl) B.z_len (by decide +kernel) (av_cons (PuD.vi (pu_var (pv 0))) av_nil))) (PuD.vi (pu_c (pe_glob (v := .int 8) (by rfl) G_MOST_LETTERS ⟨_, rfl⟩) (by decide +kernel)))))))) (ss_one (sd_ret (pu_c pe_bl rfl))) ss_nil) (ss_one (sd_ret (pu_cb (cr_all rfl) r1_all (by rfl) B.z_all (by decide +kernel) (av_cons (PuD.vi (OwD.pu (LcD.ow (lc0 [("letter", 1)] (it_str (pu_var (pv 0))) (blkOk_by (N := nIsW) (sc := defScope sIsW) (by decide +kernel)) (fun _ _ _ _ _ => (tg_name (pg_name (i := 1) scIsW.nd rfl (Or.inl rfl)))) (fun _ _ _ _ _ => (tw_name (by decide))) (fun _ _ _ _ _ => (pu_cmp op_inS r2_inS (by with_unfolding_all rfl) (PuD.vi (pu_var (pv 1))) (PuD.vi (pu_c (pe_glob (v := .str "abcdefghijklmnopqrstuvwxyz") (by rfl) G_LETTERS ⟨_, rfl⟩) (by decide +kernel)))))) rfl scIsW.nd))) av_nil)))))⟩
abbrev sIsL : Stmt := top 12
abbrev nIsL : List Str := ["thing"]
theorem scIsL : FnScope nIsL ["thing"] (defScope sIsL) := ⟨rfl, rfl, rfl, by decide +kernel, rfl, by decide +kernel, by decide +kernel⟩
def FIsL : L2.Tr.Env → Option Out := (retF (isF isSeq (atP 0)))
def fIsL (ds : List D) : Option D := if ds.length = (["thing"] : List Str).length then runF nIsL.length (FIsL ) ds else none
theorem okIsL {f : Addr} {fd : FuncData} (F : Fun K "is_list" "is_list" sIsL f fd) (B : TxB2 mg) : FnOk P w K mg base CX0 1 f fd ["thing"] (spP (fIsL )) :=
  ok_def (N := nIsL) (Φ := FIsL ) F scIsL fun cdv A outer s H E hr => ⟨_, (ss_one (sd_ret (pu_isiT isTs_seq (by rfl) B.z_isinstance (by decide +kernel) (PuD.vi (pu_var (pv 0))) (TyArgs.cons (pe_bltn (v := .ty "list") (by rfl) B.z_list (by decide +kernel) rfl) (TyArgs.cons (pe_bltn (v := .ty "tuple") (by rfl) B.z_tuple (by decide +kernel) rfl) TyArgs.nil (by rfl)) (by rfl)) (by decide))))⟩
abbrev sIsN : Stmt := top 17
abbrev nIsN : List Str := ["thing"]
theorem scIsN : FnScope nIsN ["thing"] (defScope sIsN) := ⟨rfl, rfl, rfl, by decide +kernel, rfl, by decide +kernel, by decide +kernel⟩
def FIsN : L2.Tr.Env → Option Out := (retF (andF (app1 fIsW (consD (atP 0) nilD)) (bin2 (scD true) (atP 0) (kD (.leaf (.str "number"))))))
def fIsN (ds : List D) : Option D := if ds.length = (["thing"] : List Str).length then runF nIsN.length (FIsN ) ds else none
theorem okIsN {f : Addr} {fd : FuncData} (F : Fun K "_is_name" "_is_name" sIsN f fd) (B : TxB2 mg) (hW : Fn P w K mg base "is_word" 1 1 fIsW) : FnOk P w K mg base CX0 2 f fd ["thing"] (spP (fIsN )) :=
  ok_def (N := nIsN) (Φ := FIsN ) F scIsN fun cdv A outer s H E hr => ⟨_, (ss_one (sd_ret (pu_andT (pu_call hW (hr.mono (by first | decide | omega)) (by rfl) (ar_cons (pu_var (pv 0)) ar_nil)) (pu_one (pu_cmp op_ne r2_neS (nomark _) (PuD.vi (pu_var (pv 0))) (PuD.vi (pu_c pe_str (by decide +kernel))))))))⟩
abbrev sAre : Stmt := top 18
abbrev nAre : List Str := ["thing", "value"]
theorem scAre : FnScope nAre ["thing"] (defScope sAre) := ⟨rfl, rfl, rfl, by decide +kernel, rfl, by decide +kernel, by decide +kernel⟩
def FAre : L2.Tr.Env → Option Out := (seqF (ifS (orB (notB (truF (app1 fIsL (consD (atP 0) nilD)))) (notB (asBF (chainF (intI fun i j => .bl (decide (i ≤ j))) (intI fun i j => .bl (decide (i ≤ j))) (kD (.leaf (.int 1))) (app1 lenA (consD (atP 0) nilD)) (kD (.leaf (.int 3))))))) (retF (kD (.leaf (.bl false)))) skipF) (retF (andF (app1 allD (consD (mapS (lcF [1] (seqsF (atP 0)) (setF 1) yesF (app1 fIsW (consD (atP 1) nilD)))) nilD)) (bin2 (scD false) (lenSF (atP 0)) (app1 lenA (consD (atP 0) nilD))))))
def fAre (ds : List D) : Option D := if ds.length = (["thing"] : List Str).length then runF nAre.length (FAre ) ds else none
theorem okAre {f : Addr} {fd : FuncData} (F : Fun K "_are_values" "_are_values" sAre f fd) (B : TxB2 mg) {tkV0 : Tok} (G_MOST_VALUES : mg "MOST_VALUES" = some (.int 3 tkV0)) (hW : Fn P w K mg base "is_word" 1 1 fIsW) (hL : Fn P w K mg base "is_list" 1 1 fIsL) : FnOk P w K mg base CX0 2 f fd ["thing"] (spP (fAre )) :=
  ok_def (N := nAre) (Φ := FAre ) F scAre fun cdv A outer s H E hr => ⟨_, (ss_cons (sd_if (TwD.te (tw_or (te_not (te_tru (PuD.vi (pu_call hL (hr.mono (by first | decide | omega)) (by rfl) (ar_cons (pu_var (pv 0)) ar_nil))) (fun _ => rfl))) (tw_or1 (te_not (te_chain op_le op_le (r2_I0 fun _ _ => rfl) (r2_I0 fun _ _ => rfl) (PuD.vi (pu_c pe_int rfl)) (PuD.vi (pu_cb (CallR.or call_len call_lenD) (R1D.or r1_len r1_lenK) (by rfl) B.z_len (by decide +kernel) (av_cons (PuD.vi (pu_var (pv 0))) av_nil))) (PuD.vi (pu_c (pe_glob (v := .int 3) (by rfl) G_MOST_VALUES ⟨_, rfl⟩) (by decide +kernel)))))))) (ss_one (sd_ret (pu_c pe_bl rfl))) ss_nil) (ss_one (sd_ret (pu_andT (pu_cb (cr_all rfl) r1_all (by rfl) B.z_all (by decide +kernel) (av_cons (PuD.vi (OwD.pu (LcD.ow (lc0 [("value", 1)] (it_seq (pu_var (pv 0))) (blkOk_by (N := nAre) (sc := defScope sAre) (by decide +kernel)) (fun _ _ _ _ _ => (tg_name (pg_name (i := 1) scAre.nd rfl (Or.inl rfl)))) (fun _ _ _ _ _ => (tw_name (by decide))) (fun _ _ _ _ _ => (pu_call hW (hr.mono (by first | decide | omega)) (by rfl) (ar_cons (pu_var (pv 1)) ar_nil)))) rfl scAre.nd))) av_nil)) (pu_one (pu_cmp op_eq r2_eqS (nomark _) (PuD.vi (pu_lenS rfl (by rfl) B.z_len (by rfl) B.z_set (PuD.vi (pu_var (pv 0))))) (PuD.vi (pu_cb (CallR.or call_len call_lenD) (R1D.or r1_len r1_lenK) (by rfl) B.z_len (by decide +kernel) (av_cons (PuD.vi (pu_var (pv 0))) av_nil)))))))))⟩
abbrev sTold : Stmt := top 20
abbrev nTold : List Str := ["thing"]
theorem scTold : FnScope nTold ["thing"] (defScope sTold) := ⟨rfl, rfl, rfl, by decide +kernel, rfl, by decide +kernel, by decide +kernel⟩
def FTold : L2.Tr.Env → Option Out := (retF (andF (app1 fIsL (consD (atP 0) nilD)) (andF (bin2 (scD false) (app1 lenA (consD (atP 0) nilD)) (kD (.leaf (.int 2)))) (andF (app1 fIsN (consD (bin2 ixD (atP 0) (kD (.leaf (.int 0)))) nilD)) (app1 fAre (consD (bin2 ixD (atP 0) (kD (.leaf (.int 1)))) nilD))))))
def fTold (ds : List D) : Option D := if ds.length = (["thing"] : List Str).length then runF nTold.length (FTold ) ds else none
theorem okTold {f : Addr} {fd : FuncData} (F : Fun K "_is_told" "_is_told" sTold f fd) (B : TxB2 mg) (hL : Fn P w K mg base "is_list" 1 1 fIsL) (hN : Fn P w K mg base "_is_name" 2 1 fIsN) (hA : Fn P w K mg base "are_values_columns" 2 1 fAre) : FnOk P w K mg base CX0 3 f fd ["thing"] (spP (fTold )) :=
  ok_def (N := nTold) (Φ := FTold ) F scTold fun cdv A outer s H E hr => ⟨_, (ss_one (sd_ret (pu_andT (pu_call hL (hr.mono (by first | decide | omega)) (by rfl) (ar_cons (pu_var (pv 0)) ar_nil)) (pu_andT (pu_cmp op_eq r2_eqS (nomark _) (PuD.vi (pu_cb (CallR.or call_len call_lenD) (R1D.or r1_len r1_lenK) (by rfl) B.z_len (by decide +kernel) (av_cons (PuD.vi (pu_var (pv 0))) av_nil))) (PuD.vi (pu_c pe_int rfl))) (pu_andT (pu_call hN (hr.mono (by first | decide | omega)) (by rfl) (ar_cons (pu_ix (PuD.vi (pu_var (pv 0))) (PuD.vi (pu_c pe_int rfl)) (fun _ _ => rfl)) ar_nil)) (pu_one (pu_call hA (hr.mono (by first | decide | omega)) (by rfl) (ar_cons (pu_ix (PuD.vi (pu_var (pv 0))) (PuD.vi (pu_c pe_int rfl)) (fun _ _ => rfl)) ar_nil))))))))⟩
abbrev sCan : Stmt := top 21
abbrev nCan : List Str := ["thing", "values"]
theorem scCan : FnScope nCan ["thing", "values"] (defScope sCan) := ⟨rfl, rfl, rfl, by decide +kernel, rfl, by decide +kernel, by decide +kernel⟩
def FCan : L2.Tr.Env → Option Out := (retF (andF (app1 fIsW (consD (atP 0) nilD)) (orF (bin2 (isN false) (atP 1) (kD (.leaf .non))) (bin2 (inD false) (atP 0) (atP 1)))))
def fCan (ds : List D) : Option D := if ds.length = (["thing", "values"] : List Str).length then runF nCan.length (FCan ) ds else none
theorem okCan {f : Addr} {fd : FuncData} (F : Fun K "can_stand" "can_stand" sCan f fd) (B : TxB2 mg) (hW : Fn P w K mg base "is_word" 1 1 fIsW) : FnOk P w K mg base CX0 2 f fd ["thing", "values"] (spP (fCan )) :=
  ok_def (N := nCan) (Φ := FCan ) F scCan fun cdv A outer s H E hr => ⟨_, (ss_one (sd_ret (pu_andT (pu_call hW (hr.mono (by first | decide | omega)) (by rfl) (ar_cons (pu_var (pv 0)) ar_nil)) (pu_one (pu_orT (pu_cmp op_isN r2_isN (nomark _) (PuD.vi (pu_var (pv 1))) (PuD.vi (pu_c pe_non rfl))) (pu_one (pu_cmp op_in_seq r2_in (by with_unfolding_all rfl) (PuD.vi (pu_var (pv 0))) (PuD.vi (pu_var (pv 1))))))))))⟩
abbrev sInit : Stmt := inClass (top 22) 0
abbrev nInit : List Str := ["self", "told", "free", "values", "index", "thing", "place", "name"]
theorem scInit : FnScope nInit ["self", "told", "free"] (defScope sInit) := ⟨rfl, rfl, rfl, by decide +kernel, rfl, by decide +kernel, by decide +kernel⟩
def FInit (C : Addr) : L2.Tr.Env → Option Out := (seqF (dnewF 3) (seqF (forF (enumF (atP 1)) (tupT 2 (consT (setF 4) (consT (setF 5) nilT))) (seqF (ifS (orB (asBF (bin2 (scD false) (atP 4) (kD (.leaf (.int 3))))) (orB (notB (truF (app1 fTold (consD (atP 5) nilD)))) (bin2 (dinB false) (bin2 ixD (atP 5) (kD (.leaf (.int 0)))) (atV 3)))) neverF skipF) (dputF 3 (bin2 ixD (atP 5) (kD (.leaf (.int 0)))) (app1 tupD (consD (bin2 ixD (atP 5) (kD (.leaf (.int 1)))) nilD))))) (seqF (forF (enumF (atP 2)) (tupT 2 (consT (setF 6) (consT (setF 7) nilT))) (seqF (asgF (bin2 addD (app1 lenA (consD (atP 1) nilD)) (atP 6)) (setF 4)) (seqF (ifS (orB (asBF (bin2 (scD false) (atP 4) (kD (.leaf (.int 3))))) (orB (asBF (bin2 (scD false) (atP 6) (kD (.leaf (.int 2))))) (orB (notB (truF (app1 fIsN (consD (atP 7) nilD)))) (bin2 (dinB false) (atP 7) (atV 3))))) neverF skipF) (dputF 3 (atP 7) (kD (.leaf .non)))))) (seqF (ifS (notB (truF (atV 3))) neverF skipF) (frzF 3 (sfldF 0 C "_values" (atP 3)))))))
def fInit (C : Addr) (ds : List D) : Option (List Str × List D) := if ds.length + 1 = (["self", "told", "free"] : List Str).length then initF nInit.length C (FInit C ) ds else none
theorem okInit {f : Addr} {fd : FuncData} {dvs : List V} {kws : List (Str × V)} (C : Addr) (F : FunD K "__init__" "Columns.__init__" (defArgs sInit) (defBody sInit) (defScope sInit) dvs kws f fd) (B : TxB2 mg) (cl : Cls K C) (na : NoAttr K C "_values") {tkC0 : Tok} (G_MOST_COLUMNS : mg "MOST_COLUMNS" = some (.int 3 tkC0)) {tkF0 : Tok} (G_MOST_FREE : mg "MOST_FREE" = some (.int 2 tkF0)) (hT : Fn P w K mg base "_is_told" 3 1 fTold) (hN : Fn P w K mg base "_is_name" 2 1 fIsN) : FnOk P w K mg base CX0 4 f fd ["self", "told", "free"] (spI C (fInit C )) :=
  ok_init (n0 := "self") (N := ["told", "free", "values", "index", "thing", "place", "name"]) (C := C) (Φ := FInit C ) F scInit fun cdv A outer s H E hr => ⟨_, (ss_cons (sd_dnew (i := 3) (fun h => ps_set (i := 3) scInit.nd rfl (by first | exact Or.inl rfl | exact Or.inr rfl) h)) (ss_cons (sd_for PassesOwn.never rfl (it_enum (pu_var (pv 1)) (by rfl) B.z_enumerate) (tg_tup rfl (tgs_cons (tg_name (pg_name (i := 4) scInit.nd rfl (by first | exact Or.inl rfl | exact Or.inr rfl))) (tgs_cons (tg_name (pg_name (i := 5) scInit.nd rfl (by first | exact Or.inl rfl | exact Or.inr rfl))) tgs_nil))) (ss_cons (sd_if (TwD.te (tw_or (te_cmp op_eq r2_eqS (nomark _) (PuD.vi (pu_var (pv 4))) (PuD.vi (pu_c (pe_glob (v := .int 3) (by rfl) G_MOST_COLUMNS ⟨_, rfl⟩) (by decide +kernel)))) (tw_or (te_not (te_tru (PuD.vi (pu_call hT (hr.mono (by first | decide | omega)) (by rfl) (ar_cons (pu_var (pv 5)) ar_nil))) (fun _ => rfl))) (tw_or1 (te_din (hu_of hr) (PuD.vi (pu_ix (PuD.vi (pu_var (pv 5))) (PuD.vi (pu_c pe_int rfl)) (fun _ _ => rfl))) (vi_var (pv 3))))))) (ss_one sd_never) ss_nil) (ss_one (sd_dput (i := 3) (hu_of hr) (pv 3) (pu_ix (PuD.vi (pu_var (pv 5))) (PuD.vi (pu_c pe_int rfl)) (fun _ _ => rfl)) (pu_cty call_tuple_of r1_tup (by rfl) B.z_tuple (by decide +kernel) (av_cons (PuD.vi (pu_ix (PuD.vi (pu_var (pv 5))) (PuD.vi (pu_c pe_int rfl)) (fun _ _ => rfl))) av_nil)))))) (ss_cons (sd_for PassesOwn.never rfl (it_enum (pu_var (pv 2)) (by rfl) B.z_enumerate) (tg_tup rfl (tgs_cons (tg_name (pg_name (i := 6) scInit.nd rfl (by first | exact Or.inl rfl | exact Or.inr rfl))) (tgs_cons (tg_name (pg_name (i := 7) scInit.nd rfl (by first | exact Or.inl rfl | exact Or.inr rfl))) tgs_nil))) (ss_cons (sd_nm (pu_add (PuD.vi (pu_cb (CallR.or call_len call_lenD) (R1D.or r1_len r1_lenK) (by rfl) B.z_len (by decide +kernel) (av_cons (PuD.vi (pu_var (pv 1))) av_nil))) (PuD.vi (pu_var (pv 6)))) (fun h => ps_set (i := 4) scInit.nd rfl (by first | exact Or.inl rfl | exact Or.inr rfl) h)) (ss_cons (sd_if (TwD.te (tw_or (te_cmp op_eq r2_eqS (nomark _) (PuD.vi (pu_var (pv 4))) (PuD.vi (pu_c (pe_glob (v := .int 3) (by rfl) G_MOST_COLUMNS ⟨_, rfl⟩) (by decide +kernel)))) (tw_or (te_cmp op_eq r2_eqS (nomark _) (PuD.vi (pu_var (pv 6))) (PuD.vi (pu_c (pe_glob (v := .int 2) (by rfl) G_MOST_FREE ⟨_, rfl⟩) (by decide +kernel)))) (tw_or (te_not (te_tru (PuD.vi (pu_call hN (hr.mono (by first | decide | omega)) (by rfl) (ar_cons (pu_var (pv 7)) ar_nil))) (fun _ => rfl))) (tw_or1 (te_din (hu_of hr) (PuD.vi (pu_var (pv 7))) (vi_var (pv 3)))))))) (ss_one sd_never) ss_nil) (ss_one (sd_dput (i := 3) (hu_of hr) (pv 3) (pu_var (pv 7)) (pu_c pe_non rfl)))))) (ss_cons (sd_if (te_not (te_tru (vi_var (pv 3)) (fun _ => rfl))) (ss_one sd_never) ss_nil) (ss_one (sd_frz 3 (sd_fld (i := 0) cl na (pv 0) (pu_var (pv 3)))))))))⟩
abbrev sNames : Stmt := inClass (top 22) 1
abbrev nNames : List Str := ["self"]
theorem scNames : FnScope nNames ["self"] (defScope sNames) := ⟨rfl, rfl, rfl, by decide +kernel, rfl, by decide +kernel, by decide +kernel⟩
def FNames (C : Addr) : L2.Tr.Env → Option (List D) := (app1 lstA (consD (fldF C "_values" (atP 0)) nilD))
def fNames (C : Addr) (ds : List D) : Option (List D) := if ds.length = (["self"] : List Str).length then FNames C (env0 nNames.length ds) else none
theorem okNames {f : Addr} {fd : FuncData} (C : Addr) (F : Fun K "names" "Columns.names" sNames f fd) (B : TxB2 mg) (cl : Cls K C) (na : NoAttr K C "_values") : FnOk P w K mg base CX0 1 f fd ["self"] (spO (fNames C )) :=
  ok_retO (N := nNames) (ψ := FNames C ) F scNames rfl fun cdv A outer s H E hr => ⟨_, (ow_cty (CallR.or call_list_of (call_list_dK rfl)) (R1O.or r1_lst r1_lstK) (by rfl) B.z_list (by decide +kernel) (av_cons (PuD.vi (pu_fld cl na (PuD.vi (pu_var (pv 0))))) av_nil))⟩
abbrev sLen : Stmt := inClass (top 22) 4
abbrev nLen : List Str := ["self"]
theorem scLen : FnScope nLen ["self"] (defScope sLen) := ⟨rfl, rfl, rfl, by decide +kernel, rfl, by decide +kernel, by decide +kernel⟩
def FLen (C : Addr) : L2.Tr.Env → Option Out := (retF (app1 lenA (consD (fldF C "_values" (atP 0)) nilD)))
def fLen (C : Addr) (ds : List D) : Option D := if ds.length = (["self"] : List Str).length then runF nLen.length (FLen C ) ds else none
theorem okLen {f : Addr} {fd : FuncData} (C : Addr) (F : Fun K "__len__" "Columns.__len__" sLen f fd) (B : TxB2 mg) (cl : Cls K C) (na : NoAttr K C "_values") : FnOk P w K mg base CX0 1 f fd ["self"] (spP (fLen C )) :=
  ok_def (N := nLen) (Φ := FLen C ) F scLen fun cdv A outer s H E hr => ⟨_, (ss_one (sd_ret (pu_cb (CallR.or call_len call_lenD) (R1D.or r1_len r1_lenK) (by rfl) B.z_len (by decide +kernel) (av_cons (PuD.vi (pu_fld cl na (PuD.vi (pu_var (pv 0))))) av_nil))))⟩
abbrev sIn : Stmt := inClass (top 22) 5
abbrev nIn : List Str := ["self", "thing"]
theorem scIn : FnScope nIn ["self", "thing"] (defScope sIn) := ⟨rfl, rfl, rfl, by decide +kernel, rfl, by decide +kernel, by decide +kernel⟩
def FIn (C : Addr) : L2.Tr.Env → Option Out := (retF (andF (isF isStr (atP 1)) (dinV (atP 1) (fldF C "_values" (atP 0)))))
def fIn (C : Addr) (ds : List D) : Option D := if ds.length = (["self", "thing"] : List Str).length then runF nIn.length (FIn C ) ds else none
theorem okIn {f : Addr} {fd : FuncData} (C : Addr) (F : Fun K "__contains__" "Columns.__contains__" sIn f fd) (B : TxB2 mg) (cl : Cls K C) (na : NoAttr K C "_values") : FnOk P w K mg base CX0 1 f fd ["self", "thing"] (spP (fIn C )) :=
  ok_def (N := nIn) (Φ := FIn C ) F scIn fun cdv A outer s H E hr => ⟨_, (ss_one (sd_ret (pu_andT (pu_isi isT_str (by rfl) B.z_isinstance (by decide +kernel) (PuD.vi (pu_var (pv 1))) (pe_bltn (v := .ty "str") (by rfl) B.z_str (by decide +kernel) rfl)) (pu_one (pu_din (hu_of hr) (PuD.vi (pu_var (pv 1))) (PuD.vi (pu_fld cl na (PuD.vi (pu_var (pv 0))))))))))⟩
abbrev sTV : Stmt := inClass (top 22) 2
abbrev nTV : List Str := ["self", "name"]
theorem scTV : FnScope nTV ["self", "name"] (defScope sTV) := ⟨rfl, rfl, rfl, by decide +kernel, rfl, by decide +kernel, by decide +kernel⟩
def FTV (C : Addr) : L2.Tr.Env → Option Out := (seqF (ifS (asBF (bin2 (conD true C (fIn C)) (atP 1) (atP 0))) neverF skipF) (retF (bin2 dgD (fldF C "_values" (atP 0)) (atP 1))))
def fTV (C : Addr) (ds : List D) : Option D := if ds.length = (["self", "name"] : List Str).length then runF nTV.length (FTV C ) ds else none
theorem okTV {f : Addr} {fd : FuncData} (C : Addr) (F : Fun K "told_values" "Columns.told_values" sTV f fd) (B : TxB2 mg) (cl : Cls K C) (na : NoAttr K C "_values") (hI : L2.Tr.Con P w K mg base C 1 (fIn C)) : FnOk P w K mg base CX0 2 f fd ["self", "name"] (spP (fTV C )) :=
  ok_def (N := nTV) (Φ := FTV C ) F scTV fun cdv A outer s H E hr => ⟨_, (ss_cons (sd_if (te_cmp (con_notIn hI (hr.mono (by first | decide | omega))) r2_con (by with_unfolding_all rfl) (PuD.vi (pu_var (pv 1))) (PuD.vi (pu_var (pv 0)))) (ss_one sd_never) ss_nil) (ss_one (sd_ret (pu_dg (hu_of hr) (PuD.vi (pu_fld cl na (PuD.vi (pu_var (pv 0))))) (PuD.vi (pu_var (pv 1))) (fun _ _ => rfl)))))⟩
abbrev sEq : Stmt := inClass (top 22) 6
abbrev nEq : List Str := ["self", "other"]
theorem scEq : FnScope nEq ["self", "other"] (defScope sEq) := ⟨rfl, rfl, rfl, by decide +kernel, rfl, by decide +kernel, by decide +kernel⟩
def FEq (C : Addr) : L2.Tr.Env → Option Out := (retF (andF (isF (isCls C) (atP 1)) (bin2 (eqP false) (mapS (itemsO (fldF C "_values" (atP 0)))) (mapS (itemsO (fldF C "_values" (atP 1)))))))
def fEq (C : Addr) (ds : List D) : Option D := if ds.length = (["self", "other"] : List Str).length then runF nEq.length (FEq C ) ds else none
theorem okEq {f : Addr} {fd : FuncData} (C : Addr) (F : Fun K "__eq__" "Columns.__eq__" sEq f fd) (B : TxB2 mg) (cl : Cls K C) (na : NoAttr K C "_values") (oc : OwnC K C) (G_Columns : mg "Columns" = some (.ref C)) : FnOk P w K mg base CX0 1 f fd ["self", "other"] (spP (fEq C )) :=
  ok_def (N := nEq) (Φ := FEq C ) F scEq fun cdv A outer s H E hr => ⟨_, (ss_one (sd_ret (pu_andT (pu_isiC (isT_cls oc) (by rfl) B.z_isinstance (by decide +kernel) (PuD.vi (pu_var (pv 1))) (pe_glob (by rfl) G_Columns rfl)) (pu_one (pu_cmp (op_eqD (hr.units)) r2_eqD (nomark _) (PuD.vi (OwD.pu (ow_items rfl (PuD.vi (pu_fld cl na (PuD.vi (pu_var (pv 0))))) (by rfl) B.z_list (by decide +kernel)))) (PuD.vi (OwD.pu (ow_items rfl (PuD.vi (pu_fld cl na (PuD.vi (pu_var (pv 1))))) (by rfl) B.z_list (by decide +kernel)))))))))⟩
abbrev sANum : Stmt := top 34
abbrev nANum : List Str := ["things", "thing"]
theorem scANum : FnScope nANum ["things"] (defScope sANum) := ⟨rfl, rfl, rfl, by decide +kernel, rfl, by decide +kernel, by decide +kernel⟩
def FANum : L2.Tr.Env → Option Out := (seqF (ifS (orB (notB (truF (app1 fIsL (consD (atP 0) nilD)))) (asBF (bin2 (scD false) (app1 lenA (consD (atP 0) nilD)) (kD (.leaf (.int 0)))))) (retF (kD (.leaf (.bl false)))) skipF) (retF (app1 allD (consD (mapS (lcF [1] (seqsF (atP 0)) (setF 1) yesF (andF (app1 fIsNu (consD (atP 1) nilD)) (chainF (intI fun i j => .bl (decide (i ≤ j))) (intI fun i j => .bl (decide (i ≤ j))) (kD (.leaf (.int 1))) (atP 1) (kD (.leaf (.int 4))))))) nilD))))
def fANum (ds : List D) : Option D := if ds.length = (["things"] : List Str).length then runF nANum.length (FANum ) ds else none
theorem okANum {f : Addr} {fd : FuncData} (F : Fun K "_are_numbers" "_are_numbers" sANum f fd) (B : TxB2 mg) {tkG0 : Tok} (G_GREATEST_NUMBER : mg "GREATEST_NUMBER" = some (.int 4 tkG0)) (hL : Fn P w K mg base "is_list" 1 1 fIsL) (hNu : Fn P w K mg base "is_number" 1 1 fIsNu) : FnOk P w K mg base CX0 2 f fd ["things"] (spP (fANum )) :=
  ok_def (N := nANum) (Φ := FANum ) F scANum fun cdv A outer s H E hr => ⟨_, (ss_cons (sd_if (TwD.te (tw_or (te_not (te_tru (PuD.vi (pu_call hL (hr.mono (by first | decide | omega)) (by rfl) (ar_cons (pu_var (pv 0)) ar_nil))) (fun _ => rfl))) (tw_or1 (te_cmp op_eq r2_eqS (nomark _) (PuD.vi (pu_cb (CallR.or call_len call_lenD) (R1D.or r1_len r1_lenK) (by rfl) B.z_len (by decide +kernel) (av_cons (PuD.vi (pu_var (pv 0))) av_nil))) (PuD.vi (pu_c pe_int rfl)))))) (ss_one (sd_ret (pu_c pe_bl rfl))) ss_nil) (ss_one (sd_ret (pu_cb (cr_all rfl) r1_all (by rfl) B.z_all (by decide +kernel) (av_cons (PuD.vi (OwD.pu (LcD.ow (lc0 [("thing", 1)] (it_seq (pu_var (pv 0))) (blkOk_by (N := nANum) (sc := defScope sANum) (by decide +kernel)) (fun _ _ _ _ _ => (tg_name (pg_name (i := 1) scANum.nd rfl (Or.inl rfl)))) (fun _ _ _ _ _ => (tw_name (by decide))) (fun _ _ _ _ _ => (pu_andT (pu_call hNu (hr.mono (by first | decide | omega)) (by rfl) (ar_cons (pu_var (pv 1)) ar_nil)) (pu_one (pu_chain op_le op_le (r2_I0 fun _ _ => rfl) (r2_I0 fun _ _ => rfl) (PuD.vi (pu_c pe_int rfl)) (PuD.vi (pu_var (pv 1))) (PuD.vi (pu_c (pe_glob (v := .int 4) (by rfl) G_GREATEST_NUMBER ⟨_, rfl⟩) (by decide +kernel)))))))) rfl scANum.nd))) av_nil)))))⟩
abbrev sAVal : Stmt := top 32
abbrev nAVal : List Str := ["things", "told", "thing"]
theorem scAVal : FnScope nAVal ["things", "told"] (defScope sAVal) := ⟨rfl, rfl, rfl, by decide +kernel, rfl, by decide +kernel, by decide +kernel⟩
def FAVal : L2.Tr.Env → Option Out := (seqF (ifS (orB (notB (truF (app1 fIsL (consD (atP 0) nilD)))) (asBF (bin2 (scD false) (app1 lenA (consD (atP 0) nilD)) (kD (.leaf (.int 0)))))) (retF (kD (.leaf (.bl false)))) skipF) (retF (andF (app1 allD (consD (mapS (lcF [2] (seqsF (atP 0)) (setF 2) yesF (app1 fCan (consD (atP 2) (consD (atP 1) nilD))))) nilD)) (bin2 (scD false) (lenSF (atP 0)) (app1 lenA (consD (atP 0) nilD))))))
def fAVal (ds : List D) : Option D := if ds.length = (["things", "told"] : List Str).length then runF nAVal.length (FAVal ) ds else none
theorem okAVal {f : Addr} {fd : FuncData} (F : Fun K "_are_values" "_are_values" sAVal f fd) (B : TxB2 mg) (hL : Fn P w K mg base "is_list" 1 1 fIsL) (hC : Fn P w K mg base "can_stand" 2 2 fCan) : FnOk P w K mg base CX0 3 f fd ["things", "told"] (spP (fAVal )) :=
  ok_def (N := nAVal) (Φ := FAVal ) F scAVal fun cdv A outer s H E hr => ⟨_, (ss_cons (sd_if (TwD.te (tw_or (te_not (te_tru (PuD.vi (pu_call hL (hr.mono (by first | decide | omega)) (by rfl) (ar_cons (pu_var (pv 0)) ar_nil))) (fun _ => rfl))) (tw_or1 (te_cmp op_eq r2_eqS (nomark _) (PuD.vi (pu_cb (CallR.or call_len call_lenD) (R1D.or r1_len r1_lenK) (by rfl) B.z_len (by decide +kernel) (av_cons (PuD.vi (pu_var (pv 0))) av_nil))) (PuD.vi (pu_c pe_int rfl)))))) (ss_one (sd_ret (pu_c pe_bl rfl))) ss_nil) (ss_one (sd_ret (pu_andT (pu_cb (cr_all rfl) r1_all (by rfl) B.z_all (by decide +kernel) (av_cons (PuD.vi (OwD.pu (LcD.ow (lc0 [("thing", 2)] (it_seq (pu_var (pv 0))) (blkOk_by (N := nAVal) (sc := defScope sAVal) (by decide +kernel)) (fun _ _ _ _ _ => (tg_name (pg_name (i := 2) scAVal.nd rfl (Or.inl rfl)))) (fun _ _ _ _ _ => (tw_name (by decide))) (fun _ _ _ _ _ => (pu_call hC (hr.mono (by first | decide | omega)) (by rfl) (ar_cons (pu_var (pv 2)) (ar_cons (pu_var (pv 1)) ar_nil))))) rfl scAVal.nd))) av_nil)) (pu_one (pu_cmp op_eq r2_eqS (nomark _) (PuD.vi (pu_lenS rfl (by rfl) B.z_len (by rfl) B.z_set (PuD.vi (pu_var (pv 0))))) (PuD.vi (pu_cb (CallR.or call_len call_lenD) (R1D.or r1_len r1_lenK) (by rfl) B.z_len (by decide +kernel) (av_cons (PuD.vi (pu_var (pv 0))) av_nil)))))))))⟩
abbrev sNumb : Stmt := top 29
abbrev nNumb : List Str := ["columns", "numbers"]
theorem scNumb : FnScope nNumb ["columns", "numbers"] (defScope sNumb) := ⟨rfl, rfl, rfl, by decide +kernel, rfl, by decide +kernel, by decide +kernel⟩
def FNumb (C C3 : Addr) : L2.Tr.Env → Option Out := (seqF (ifS (notB (truF (app1 fANum (consD (atP 1) nilD)))) neverF skipF) (retF (app1 (mkD C3 (fLInit C3)) (consD (atP 0) (consD (tupDisp (consD (tupDisp (consD (kD (.leaf (.str "in"))) (consD (app1 (lenOD C (fLen C)) (consD (atP 0) nilD)) (consD (app1 tupD (consD (atP 1) nilD)) nilD)))) nilD)) nilD)))))
def fNumb (C C3 : Addr) (ds : List D) : Option D := if ds.length = (["columns", "numbers"] : List Str).length then runF nNumb.length (FNumb C C3 ) ds else none
theorem okNumb {f : Addr} {fd : FuncData} (C C3 : Addr) (F : Fun K "numbered" "numbered" sNumb f fd) (B : TxB2 mg) (mk : Mkr P w K mg base "Look" C3 2 (fLInit C3)) (mL : Len P w K mg base C 1 (fLen C)) (hAN : Fn P w K mg base "_are_numbers" 2 1 fANum) : FnOk P w K mg base CX0 4 f fd ["columns", "numbers"] (spP (fNumb C C3 )) :=
  ok_def (N := nNumb) (Φ := FNumb C C3 ) F scNumb fun cdv A outer s H E hr => ⟨_, (ss_cons (sd_if (te_not (te_tru (PuD.vi (pu_call hAN (hr.mono (by first | decide | omega)) (by rfl) (ar_cons (pu_var (pv 1)) ar_nil))) (fun _ => rfl))) (ss_one sd_never) ss_nil) (ss_one (sd_ret (pu_make mk (hr.mono (by first | decide | omega)) (by rfl) (ar_cons (pu_var (pv 0)) (ar_cons (pu_tup (ar_cons (pu_tup (ar_cons (pu_c pe_str (by decide +kernel)) (ar_cons (pu_cb (len_cr mL (hr.mono (by first | decide | omega))) r1_lenO (by rfl) B.z_len (by decide +kernel) (av_cons (PuD.vi (pu_var (pv 0))) av_nil)) (ar_cons (pu_cty call_tuple_of r1_tup (by rfl) B.z_tuple (by decide +kernel) (av_cons (PuD.vi (pu_var (pv 1))) av_nil)) ar_nil)))) ar_nil)) ar_nil))))))⟩
abbrev sHas : Stmt := top 27
abbrev nHas : List Str := ["columns", "name", "values", "told"]
theorem scHas : FnScope nHas ["columns", "name", "values"] (defScope sHas) := ⟨rfl, rfl, rfl, by decide +kernel, rfl, by decide +kernel, by decide +kernel⟩
def FHas (C C3 : Addr) : L2.Tr.Env → Option Out := (seqF (asgF (metF C "told_values" (fTV C) (atP 0) (consD (atP 1) nilD)) (setF 3)) (seqF (ifS (notB (truF (app1 fAVal (consD (atP 2) (consD (atP 3) nilD))))) neverF skipF) (retF (app1 (mkD C3 (fLInit C3)) (consD (atP 0) (consD (tupDisp (consD (tupDisp (consD (kD (.leaf (.str "in"))) (consD (bin2 indexD (mapS (metFO C "names" (fNames C) (atP 0))) (atP 1)) (consD (app1 tupD (consD (atP 2) nilD)) nilD)))) nilD)) nilD))))))
def fHas (C C3 : Addr) (ds : List D) : Option D := if ds.length = (["columns", "name", "values"] : List Str).length then runF nHas.length (FHas C C3 ) ds else none
theorem okHas {f : Addr} {fd : FuncData} (C C3 : Addr) (F : Fun K "has" "has" sHas f fd) (B : TxB2 mg) (mk : Mkr P w K mg base "Look" C3 2 (fLInit C3)) (mT : Mth P w K mg base C "told_values" 2 (fTV C)) (mN : MthO P w K mg base C "names" 1 (fNames C)) (hAV : Fn P w K mg base "are_values_looks" 3 2 fAVal) : FnOk P w K mg base CX0 4 f fd ["columns", "name", "values"] (spP (fHas C C3 )) :=
  ok_def (N := nHas) (Φ := FHas C C3 ) F scHas fun cdv A outer s H E hr => ⟨_, (ss_cons (sd_nm (pu_meth mT (hr.mono (by first | decide | omega)) (pu_var (pv 0)) (ar_cons (pu_var (pv 1)) ar_nil)) (fun h => ps_set (i := 3) scHas.nd rfl (by first | exact Or.inl rfl | exact Or.inr rfl) h)) (ss_cons (sd_if (te_not (te_tru (PuD.vi (pu_call hAV (hr.mono (by first | decide | omega)) (by rfl) (ar_cons (pu_var (pv 2)) (ar_cons (pu_var (pv 3)) ar_nil)))) (fun _ => rfl))) (ss_one sd_never) ss_nil) (ss_one (sd_ret (pu_make mk (hr.mono (by first | decide | omega)) (by rfl) (ar_cons (pu_var (pv 0)) (ar_cons (pu_tup (ar_cons (pu_tup (ar_cons (pu_c pe_str (by decide +kernel)) (ar_cons (pu_index (OwD.pu (ow_meth0 mN (hr.mono (by first | decide | omega)) (pu_var (pv 0)))) (pu_var (pv 1)) (fun ho h => pe_bm PySem.F.plainAttrs_list PySem.F.slot_list_index PySem.F.type_list_index mt_index ho (pa_cons h pa_nil))) (ar_cons (pu_cty call_tuple_of r1_tup (by rfl) B.z_tuple (by decide +kernel) (av_cons (PuD.vi (pu_var (pv 2))) av_nil)) ar_nil)))) ar_nil)) ar_nil)))))))⟩
abbrev sSame2 : Stmt := top 28
abbrev nSame2 : List Str := ["columns", "first", "second", "one", "other", "names"]
theorem scSame2 : FnScope nSame2 ["columns", "first", "second"] (defScope sSame2) := ⟨rfl, rfl, rfl, by decide +kernel, rfl, by decide +kernel, by decide +kernel⟩
def FSame2 (C C3 : Addr) : L2.Tr.Env → Option Out := (seqF (par_pp 3 4 (metF C "told_values" (fTV C) (atP 0) (consD (atP 1) nilD)) (metF C "told_values" (fTV C) (atP 0) (consD (atP 2) nilD))) (seqF (ifS (orB (asBF (bin2 (scD false) (atP 1) (atP 2))) (asBF (bin2 (eqP true) (atP 3) (atP 4)))) neverF skipF) (seqF (asgF (mapS (metFO C "names" (fNames C) (atP 0))) (setF 5)) (retF (app1 (mkD C3 (fLInit C3)) (consD (atP 0) (consD (tupDisp (consD (tupDisp (consD (kD (.leaf (.str "same"))) (consD (bin2 indexD (atP 5) (atP 1)) (consD (bin2 indexD (atP 5) (atP 2)) nilD)))) nilD)) nilD)))))))
def fSame2 (C C3 : Addr) (ds : List D) : Option D := if ds.length = (["columns", "first", "second"] : List Str).length then runF nSame2.length (FSame2 C C3 ) ds else none
theorem okSame2 {f : Addr} {fd : FuncData} (C C3 : Addr) (F : Fun K "same" "same" sSame2 f fd) (B : TxB2 mg) (mk : Mkr P w K mg base "Look" C3 2 (fLInit C3)) (mT : Mth P w K mg base C "told_values" 2 (fTV C)) (mN : MthO P w K mg base C "names" 1 (fNames C)) : FnOk P w K mg base CX0 4 f fd ["columns", "first", "second"] (spP (fSame2 C C3 )) :=
  ok_def (N := nSame2) (Φ := FSame2 C C3 ) F scSame2 fun cdv A outer s H E hr => ⟨_, (ss_cons (sd_par_pp (pu_meth mT (hr.mono (by first | decide | omega)) (pu_var (pv 0)) (ar_cons (pu_var (pv 1)) ar_nil)) (pu_meth mT (hr.mono (by first | decide | omega)) (pu_var (pv 0)) (ar_cons (pu_var (pv 2)) ar_nil)) (by decide) (fun h => ps_par (i := 3) (j := 4) rfl scSame2.nd rfl rfl (by decide) rfl rfl h (by rfl))) (ss_cons (sd_if (TwD.te (tw_or (te_cmp op_eq r2_eqS (nomark _) (PuD.vi (pu_var (pv 1))) (PuD.vi (pu_var (pv 2)))) (tw_or1 (te_cmp (op_neD (hr.units)) r2_neD (nomark _) (PuD.vi (pu_var (pv 3))) (PuD.vi (pu_var (pv 4))))))) (ss_one sd_never) ss_nil) (ss_cons (sd_nm (OwD.pu (ow_meth0 mN (hr.mono (by first | decide | omega)) (pu_var (pv 0)))) (fun h => ps_set (i := 5) scSame2.nd rfl (by first | exact Or.inl rfl | exact Or.inr rfl) h)) (ss_one (sd_ret (pu_make mk (hr.mono (by first | decide | omega)) (by rfl) (ar_cons (pu_var (pv 0)) (ar_cons (pu_tup (ar_cons (pu_tup (ar_cons (pu_c pe_str (by decide +kernel)) (ar_cons (pu_index (pu_var (pv 5)) (pu_var (pv 1)) (fun ho h => pe_bm PySem.F.plainAttrs_list PySem.F.slot_list_index PySem.F.type_list_index mt_index ho (pa_cons h pa_nil))) (ar_cons (pu_index (pu_var (pv 5)) (pu_var (pv 2)) (fun ho h => pe_bm PySem.F.plainAttrs_list PySem.F.slot_list_index PySem.F.type_list_index mt_index ho (pa_cons h pa_nil))) ar_nil)))) ar_nil)) ar_nil))))))))⟩
end
end L2.K1

/-! The stream, of law k01: as law k02's Na. -/
namespace L2.K1
open PySem PySem.Spec PyProof.Rows
abbrev sDraw : Stmt := top 51
abbrev sStart : Stmt := top 52
/-! ### the stream: a list at a of the script's rest (a list at b) and three numbers -/
structure StO (H : Hp) (a b : Addr) (n : Nat) : Prop where
  ex : ∃ (ns : List Int) (c1 c2 c3 : Int), H a = some (.lst [.ref b, .int c1, .int c2, .int c3]) ∧ H b = some (.lst (ns.map V.int)) ∧ 0 ≤ c1 ∧ 0 ≤ c2 ∧ c2 ≤ n ∧ 0 ≤ c3 ∧ c3 < 2147483647
/-- all that was tracked, but for the addresses of S, is as it was -/
def Kp (S : Addr → Prop) (H H' : Hp) : Prop := ∀ c o, H c = some o → ¬ S c → H' c = some o
theorem Kp.refl {S : Addr → Prop} (H : Hp) : Kp S H H := fun _ _ h _ => h
theorem Kp.trans {S : Addr → Prop} {H H1 H2 : Hp} (p : Kp S H H1) (q : Kp S H1 H2) : Kp S H H2 := fun c o h n => q c o (p c o h n) n
theorem Kp.of {S : Addr → Prop} {H H' : Hp} (e : Same H H') : Kp S H H' := fun c o h _ => e c o h
abbrev two (a b : Addr) : Addr → Prop := fun c => c = a ∨ c = b
theorem StO.kp {H H' : Hp} {a b : Addr} {n : Nat} (s : StO H a b n) (e : Same H H') : StO H' a b n := by
  obtain ⟨ns, c1, c2, c3, h1, h2, h⟩ := s.ex
  exact ⟨ns, c1, c2, c3, e _ _ h1, e _ _ h2, h⟩
theorem StO.le {H : Hp} {a b : Addr} {n m : Nat} (s : StO H a b n) (h : n ≤ m) : StO H a b m := by
  obtain ⟨ns, c1, c2, c3, h1, h2, h3, h4, h5, h6⟩ := s.ex
  exact ⟨ns, c1, c2, c3, h1, h2, h3, h4, by omega, h6⟩
/-- what is free behind was free ahead -/
theorem StO.free {H H' : Hp} {a b p : Addr} {m : Nat} (s : StO H' a b m) (k : Kp (two a b) H H') (h : H' p = none) : H p = none := by
  obtain ⟨ns, c1, c2, c3, h1, h2, _⟩ := s.ex
  cases e : H p with
  | none => rfl
  | some o =>
    by_cases ha : p = a
    · rw [ha, h1] at h; cases h
    · by_cases hb : p = b
      · rw [hb, h2] at h; cases h
      · rw [k p o e (fun z => z.elim ha hb)] at h; cases h
def spDraw : Sp := fun vs H Q _ => ∃ (a b : Addr) (m : Int) (n : Nat), vs = [.ref a, .int m] ∧ StO H a b n ∧ n ≤ 1000000 ∧ 0 < m ∧ m < 1000000 ∧
  ∀ (d : Int) (H' : Hp), 0 ≤ d → d < m → StO H' a b (n + 1) → Kp (two a b) H H' → Q (.int d) H'
/-- list(script), 0, 0, 0 -/
def spStart (K : PySem.W.Frag) : Sp := fun vs H Q _ => ∃ (p : Addr) (ns : List Int), vs = [.ref p] ∧ SqL K H p (ns.map V.int) ∧
  ∀ (a b : Addr) (H' : Hp), StO H' a b 0 → Same H H' → H a = none → H b = none → Q (.ref a) H'
structure TxA (mg : Str → Option Value) : Prop where
  z_int : mg "int" = none
  z_list : mg "list" = none
section
variable {P : Program} {w : World} {K : PySem.W.Frag} {mg : Str → Option Value} {base : Heap}
theorem scDraw : FnScope ["_law_stream", "_law_many", "_law_digit", "_law_mixed"] ["_law_stream", "_law_many"] (defScope sDraw) := ⟨rfl, rfl, rfl, by decide +kernel, rfl, by decide +kernel, by decide +kernel⟩
theorem dp_ints {H : Hp} : ∀ ns : List Int, DpAll K H (ns.map V.int) (ns.map PyData.int)
  | [] => .nil
  | n :: r => .cons (.int n) (dp_ints r)
theorem fmod_lt {i j : Int} (h : 0 < j) : 0 ≤ i.fmod j ∧ i.fmod j < j := by
  rw [Int.fmod_eq_emod_of_nonneg _ (Int.le_of_lt h)]
  exact ⟨Int.emod_nonneg _ (by omega), Int.emod_lt_of_pos _ h⟩
theorem fdiv_nn {i j : Int} (hi : 0 ≤ i) (h : 0 < j) : 0 ≤ i.fdiv j := by
  rw [Int.fdiv_eq_ediv_of_nonneg _ (Int.le_of_lt h)]
  exact Int.ediv_nonneg hi (Int.le_of_lt h)
theorem ok_draw {f : Addr} {fd : FuncData} (F : Fun K "_law_draw" "_law_draw" sDraw f fd) (T : TxA mg) : FnOk P w K mg base CX0 1 f fd ["_law_stream", "_law_many"] spDraw := by
  refine F.ok scDraw (fun vs H Q E h => ?_) (fun cdv A outer s H vs Q E hr h => ?_)
  · obtain ⟨a, b, m, n, rfl, _⟩ := h
    rfl
  · obtain ⟨a, b, m, n, rfl, hS, hn, hm, hm2, k⟩ := h
    obtain ⟨ns, c1, c2, c3, ha, hb, p1, p2, p2', p3, p3'⟩ := hS.ex
    have hab : a ≠ b := fun z => by
      rw [z, hb] at ha
      cases ns with
      | nil => cases ha
      | cons x r =>
        have := Option.some.inj ha
        injection this with this
        injection this with this _
        cases this
    refine ⟨_, (pss_cons (ps_asg (pe_op op_add (pe_ix ix_list (pv 0) pe_int (fun _ _ => rfl)) pe_int) (pg_sub (pv 0) pe_int set_list)) (C8.pss_cut (ps_if (PW.pt (pw_and (pt_cmpR op_eq (pe_ix ix_list (pv 0) pe_int (fun _ _ => rfl)) pe_int (nomark _)) (pw_and1 (pt_cmpR (op_neD hr.units) (pe_ix ix_list (pv 0) pe_int (fun _ _ => rfl)) (pe_lst pa_nil) (nomark _))))) (pss_cons (ps_asg (pe_bm PySem.F.plainAttrs_list PySem.F.slot_list_pop PySem.F.type_list_pop mt_popAt (pe_ix ix_list (pv 0) pe_int (fun _ _ => rfl)) (pa_cons pe_int pa_nil)) (pg_sub (pv 0) pe_int set_list)) (pss_one (ps_if (pt_cmpR op_lt (pe_ix ix_list (pv 0) pe_int (fun _ _ => rfl)) (pe_op op_pow pe_int pe_int) (nomark _)) (pss_cons (ps_asg (pe_op op_modN (pe_callTy call_int1 (by rfl) T.z_int (by decide +kernel) (pa_cons (pe_op op_add (pe_op op_add (pe_op op_mul (pe_ix ix_list (pv 0) pe_int (fun _ _ => rfl)) pe_int) (pe_ix ix_list (pv 0) pe_int (fun _ _ => rfl))) pe_int) pa_nil)) pe_int) (pg_sub (pv 0) pe_int set_list)) (pss_one (ps_asg pe_int (pg_sub (pv 0) pe_int set_list)))) pss_nil))) pss_nil) (pss_cons (ps_if (pt_cmpR op_gt (pe_ix ix_list (pv 0) pe_int (fun _ _ => rfl)) pe_int (nomark _)) (pss_cons (ps_set (i := 2) scDraw.nd rfl (Or.inl rfl) (pe_op op_modN (pe_callTy call_int1 (by rfl) T.z_int (by decide +kernel) (pa_cons (pe_ix ix_list (pv 0) pe_int (fun _ _ => rfl)) pa_nil)) (pv 1))) (pss_cons (ps_asg (pe_op op_fdivN (pe_ix ix_list (pv 0) pe_int (fun _ _ => rfl)) (pv 1)) (pg_sub (pv 0) pe_int set_list)) (pss_one (ps_ret (pv 2))))) pss_nil) (pss_cons (ps_set (i := 3) scDraw.nd rfl (Or.inl rfl) (pe_op op_modN (pe_op op_pow (pe_op op_add (pe_op op_add (pe_ix ix_list (pv 0) pe_int (fun _ _ => rfl)) (pe_op op_mul pe_int (pe_ix ix_list (pv 0) pe_int (fun _ _ => rfl)))) pe_int) pe_int) pe_int)) (pss_one (ps_ret (pe_op op_modN (pe_op op_modN (pe_op op_pow (pe_op op_add (pe_op op_add (pe_op op_mul (pv 3) pe_int) (pe_op op_mul (pe_op op_mul pe_int (pe_ix ix_list (pv 0) pe_int (fun _ _ => rfl))) (pe_ix ix_list (pv 0) pe_int (fun _ _ => rfl)))) pe_int) pe_int) pe_int) (pv 1)))))))), ?_⟩
    -- stream[2] = stream[2] + 1
    refine ⟨_, rfl, a, _, 2, _, rfl, rfl, SqL.of ha, rfl, _, _, rfl, rfl, _, rfl, a, _, 2, 2, rfl, rfl, ha, rfl, ?_⟩
    generalize e1 : upd H a _ = H1
    have h1a : H1 a = some (.lst [.ref b, .int c1, .int (c2 + 1), .int c3]) := by rw [← e1]; exact upd_same
    have h1b : H1 b = some (.lst (ns.map V.int)) := by rw [← e1, upd_ne (Ne.symm hab)]; exact hb
    have k1 : Kp (two a b) H H1 := fun c o h z => by rw [← e1, upd_ne (fun q => z (.inl q))]; exact h
    refine ⟨fun σ' H' => σ' = [some (.ref a), some (.int m), none, none] ∧ StO H' a b (n + 1) ∧ Kp (two a b) H H', ?_, ?_⟩
    · -- if stream[1] == 0 and stream[0] != []
      refine ⟨_, rfl, a, _, 1, _, rfl, rfl, SqL.of h1a, rfl, rfl, _, rfl, ?_⟩
      refine ite2 (fun hc => ?_) (fun hc => ?_)
      · have hc0 : c1 = 0 := by simpa using hc
        subst hc0
        refine ⟨_, rfl, a, _, 0, _, rfl, rfl, SqL.of h1a, rfl, (by show 0 ≤ sizeLine; decide), fun p hp => ?_⟩
        have k2 : ∀ {c o}, H1 c = some o → upd H1 p (.lst []) c = some o := fun {c o} z => by rw [upd_ne (ne_of_none z hp)]; exact z
        refine ⟨_, _, .lst (SqL.of (k2 h1b)) (dp_ints ns), .lst (SqL.of upd_same) .nil, PySem.W.ke_shaped_ints ns, (by decide), _, rfl, ?_⟩
        generalize e2 : upd H1 p (.lst []) = H2 at k2
        have h2a := k2 h1a
        have h2b := k2 h1b
        have k12 : Kp (two a b) H H2 := k1.trans (fun c o h _ => k2 h)
        cases ns with
        | nil =>
          refine iteF ?_
          exact ⟨rfl, ⟨[], 0, c2 + 1, c3, h2a, h2b, by omega, by omega, by omega, p3, p3'⟩, k12⟩
        | cons x r =>
          refine iteT ?_
          -- stream[1] = stream[0].pop(0)
          refine ⟨_, rfl, a, _, 0, _, rfl, rfl, SqL.of h2a, rfl, .inl ⟨rfl, _, SqL.of h2b⟩, b, _, 0, 0, _, rfl, rfl, h2b, by decide, by decide, (by rw [List.map_cons, List.length_cons]; simp [seqIndex?]; try omega), rfl, ?_⟩
          generalize e3 : upd H2 b _ = H3
          have h3a : H3 a = some (.lst [.ref b, .int 0, .int (c2 + 1), .int c3]) := by rw [← e3, upd_ne hab]; exact h2a
          have h3b : H3 b = some (.lst (r.map V.int)) := by rw [← e3]; exact upd_same
          refine ⟨_, rfl, a, _, 1, 1, rfl, rfl, h3a, rfl, ?_⟩
          generalize e4 : upd H3 a _ = H4
          have h4a : H4 a = some (.lst [.ref b, .int x, .int (c2 + 1), .int c3]) := by rw [← e4]; exact upd_same
          have h4b : H4 b = some (.lst (r.map V.int)) := by rw [← e4, upd_ne (Ne.symm hab)]; exact h3b
          have k14 : Kp (two a b) H H4 := k12.trans fun c o h z => by
            rw [← e4, upd_ne (fun q => z (.inl q)), ← e3, upd_ne (fun q => z (.inr q))]; exact h
          -- if stream[1] < 10 ** 18
          refine ⟨_, rfl, a, _, 1, _, rfl, rfl, SqL.of h4a, rfl, _, _, rfl, rfl, ⟨by decide, by decide, by decide⟩, _, _, rfl, rfl, _, rfl, ?_⟩
          refine ite2 (fun hc => ?_) (fun hc => ?_)
          · refine ⟨_, rfl, a, _, 3, _, rfl, rfl, SqL.of h4a, rfl, _, _, rfl, rfl, .inr ⟨by decide, by decide⟩, _, rfl, a, _, 1, _, rfl, rfl, SqL.of h4a, rfl, _, _, rfl, rfl, _, _, rfl, rfl,
              .inl ⟨_, rfl, _, _, rfl, rfl, (by show (2147483647 : Int) ≠ 0; decide), _, rfl, a, _, 3, 3, rfl, rfl, h4a, rfl, ?_⟩⟩
            generalize e5 : upd H4 a _ = H5
            have h5a : H5 a = some (.lst [.ref b, .int x, .int (c2 + 1), .int ((c3 * 31 + x + 7).fmod 2147483647)]) := by rw [← e5]; exact upd_same
            refine ⟨_, rfl, a, _, 1, 1, rfl, rfl, h5a, rfl, ?_⟩
            refine ⟨rfl, ⟨r, 0, c2 + 1, (c3 * 31 + x + 7).fmod 2147483647, upd_same, ?_, by omega, by omega, by omega, (fmod_lt (by decide)).1, (fmod_lt (by decide)).2⟩, k14.trans fun c o h z => ?_⟩
            · rw [upd_ne (Ne.symm hab), ← e5, upd_ne (Ne.symm hab)]; exact h4b
            · rw [upd_ne (fun q => z (.inl q)), ← e5, upd_ne (fun q => z (.inl q))]; exact h
          · have hx : ¬ x < 10 ^ 18 := by simpa using hc
            exact ⟨rfl, ⟨r, x, c2 + 1, c3, h4a, h4b, by omega, by omega, by omega, p3, p3'⟩, k14⟩
      · exact ⟨rfl, ⟨ns, c1, c2 + 1, c3, h1a, h1b, p1, by omega, by omega, p3, p3'⟩, k1⟩
    · rintro σ' H' ⟨rfl, S', kk⟩
      obtain ⟨ns', d1, d2, d3, ga, gb, q1, q2, q2', q3, q3'⟩ := S'.ex
      -- if stream[1] > 0
      refine ⟨_, rfl, a, _, 1, _, rfl, rfl, SqL.of ga, rfl, _, _, rfl, rfl, _, rfl, ?_⟩
      refine ite2 (fun hc => ?_) (fun hc => ?_)
      · have hd1 : 0 < d1 := by simpa using hc
        refine ⟨_, rfl, a, _, 1, _, rfl, rfl, SqL.of ga, rfl, .inl ⟨_, rfl, _, rfl, _, _, rfl, rfl, by omega, ?_⟩⟩
        refine ⟨_, rfl, a, _, 1, _, rfl, rfl, SqL.of ga, rfl, _, rfl, _, _, rfl, rfl, ⟨by omega, by omega⟩, _, rfl, a, _, 1, 1, rfl, rfl, ga, rfl, ?_⟩
        refine ⟨_, rfl, ?_⟩
        refine k (d1.fmod m) _ (fmod_lt hm).1 (fmod_lt hm).2 ⟨ns', d1.fdiv m, d2, d3, upd_same, ?_, fdiv_nn q1 hm, q2, q2', q3, q3'⟩ (kk.trans fun c o h z => ?_)
        · rw [upd_ne (Ne.symm hab)]; exact gb
        · rw [upd_ne (fun q => z (.inl q))]; exact h
      · -- the mixed draw
        have b2 : d2 ≤ 1000001 := by omega
        refine ⟨_, rfl, a, _, 3, _, rfl, rfl, SqL.of ga, rfl, _, rfl, a, _, 2, _, rfl, rfl, SqL.of ga, rfl, _, _, rfl, rfl, .inl ⟨by decide, by decide⟩, _, _, rfl, rfl, _, _, rfl, rfl, _, _, rfl, rfl, ⟨by decide, by decide, by omega⟩, _, _, rfl, rfl, (by show (2147483629 : Int) ≠ 0; decide), ?_⟩
        have w1 := fmod_lt (i := (d3 + 104729 * d2 + 17) ^ Int.toNat 5) (j := 2147483629) (by decide)
        generalize e1 : ((d3 + 104729 * d2 + 17) ^ Int.toNat 5).fmod 2147483629 = x1 at w1
        have m0 : 0 ≤ d2 * d2 := Int.mul_nonneg q2 q2
        have m1 : d2 * d2 ≤ 1000001 * 1000001 := Int.mul_le_mul b2 b2 q2 (by decide)
        have m2 : 40503 * d2 * d2 = 40503 * (d2 * d2) := Int.mul_assoc _ _ _
        generalize d2 * d2 = y at m0 m1 m2
        refine ⟨_, rfl, _, _, rfl, rfl, .inl ⟨by omega, by omega⟩, _, rfl, a, _, 2, _, rfl, rfl, SqL.of ga, rfl, _, _, rfl, rfl, .inl ⟨by decide, by decide⟩, _, rfl, a, _, 2, _, rfl, rfl, SqL.of ga, rfl, _, _, rfl, rfl, .inl ⟨by omega, by omega⟩, _, _, rfl, rfl, _, _, rfl, rfl,
          _, _, rfl, rfl, ⟨by decide, by decide, by rw [m2]; omega⟩, _, _, rfl, rfl, (by show (1000000007 : Int) ≠ 0; decide), _, rfl, _, _, rfl, rfl, (by omega), ?_⟩
        exact k _ _ (fmod_lt hm).1 (fmod_lt hm).2 S' kk
theorem scStart : FnScope ["_law_script"] ["_law_script"] (defScope sStart) := ⟨rfl, rfl, rfl, by decide +kernel, rfl, by decide +kernel, by decide +kernel⟩
theorem ok_start {f : Addr} {fd : FuncData} (F : Fun K "_law_start" "_law_start" sStart f fd) (T : TxA mg) : FnOk P w K mg base CX0 1 f fd ["_law_script"] (spStart K) := by
  refine F.ok scStart (fun vs H Q E h => ?_) (fun cdv A outer s H vs Q E hr h => ?_)
  · obtain ⟨p, ns, rfl, _⟩ := h
    rfl
  · obtain ⟨p, ns, rfl, hp, k⟩ := h
    refine ⟨_, (pss_one (ps_ret (pe_lst (pa_cons (pe_callTy call_list_of (by rfl) T.z_list (by decide +kernel) (pa_cons (pv 0) pa_nil)) (pa_cons pe_int (pa_cons pe_int (pa_cons pe_int pa_nil))))))), ?_⟩
    refine ⟨_, rfl, p, _, rfl, .inl hp, fun b nb => ?_⟩
    refine ⟨by show 4 ≤ sizeLine; decide, fun a na => ?_⟩
    have hab : a ≠ b := fun z => by rw [z, upd_same] at na; cases na
    have na' : H a = none := by rw [upd_ne hab] at na; exact na
    exact k a b _ ⟨ns, 0, 0, 0, upd_same, by rw [upd_ne (Ne.symm hab)]; exact upd_same, by decide, by decide, by decide, by decide, by decide⟩
      (fun c o h => by rw [upd_ne (ne_of_none h na'), upd_ne (ne_of_none h nb)]; exact h) na' nb
end
end L2.K1

namespace L2.K1
open PySem PySem.Spec PyProof.Rows
abbrev sPick : Stmt := top 53
/-- one of the signs of a text -/
def spPickS : Sp := fun vs H Q _ => ∃ (a b : Addr) (z : Str) (n : Nat), vs = [.ref a, .str z] ∧ StO H a b n ∧ n ≤ 1000000 ∧ 0 < z.length ∧ z.length ≤ 60 ∧
  ∀ (c : Nat) (H' : Hp), c ∈ z.cps.toList → StO H' a b (n + 1) → Kp (two a b) H H' → Q (.str ⟨#[c]⟩) H'
section
variable {P : Program} {w : World} {K : PySem.W.Frag} {mg : Str → Option Value} {base : Heap}
theorem scPick : FnScope ["_law_stream", "_law_some_here"] ["_law_stream", "_law_some_here"] (defScope sPick) := ⟨rfl, rfl, rfl, by decide +kernel, rfl, by decide +kernel, by decide +kernel⟩
theorem ok_pickS {f fdr : Addr} {fd ddr : FuncData} (F : Fun K "_law_pick" "_law_pick" sPick f fd) (hlen : mg "len" = none) (m_dr : mg "_law_draw" = some (.ref fdr)) (k_dr : PySem.W.keepIn K (.ref fdr) = true) (GD : FnOk P w K mg base CX0 1 fdr ddr ["_law_stream", "_law_many"] spDraw) (bD : Binds K ddr ["_law_stream", "_law_many"] []) :
    FnOk P w K mg base CX0 2 f fd ["_law_stream", "_law_some_here"] spPickS := by
  refine F.ok scPick (fun vs H Q E h => ?_) (fun cdv A outer s H vs Q E hr h => ?_)
  · obtain ⟨a, b, z, n, rfl, _⟩ := h
    rfl
  · obtain ⟨a, b, z, n, rfl, S, hn, h0, h60, k⟩ := h
    have hz : z.length ≤ sizeLine := by rw [sizeLine_eq]; omega
    refine ⟨_, (pss_one (ps_ret (pe_ix ix_str (pv 1) (pe_call GD (hr.mono (by decide)) rfl m_dr k_dr bD .nil pass0 (pa_cons (pv 0) (pa_cons (pe_callB call_len_str (by rfl) hlen (by decide +kernel) (pa_cons (pv 1) pa_nil)) pa_nil))) (fun _ _ => rfl)))), ?_⟩
    refine ⟨_, rfl, _, rfl, _, rfl, z, rfl, hz, a, b, z.length, n, rfl, S, hn, by omega, by omega, fun i H' hi0 hi S' k' => ?_⟩
    obtain ⟨j, rfl⟩ := Int.eq_ofNat_of_zero_le hi0
    have hj : j < z.cps.toList.length := by
      have h1 : ((j : Nat) : Int) < (z.length : Int) := hi
      have h2 : z.length = z.cps.toList.length := by rw [Array.length_toList]; rfl
      omega
    refine ⟨z, _, z.cps.toList[j], rfl, rfl, hz, atI_nat (List.getElem?_eq_getElem hj), ?_⟩
    exact k _ _ (List.getElem_mem hj) S' k'
end
end L2.K1

namespace L2.K1
open PySem PySem.Spec PyProof.Rows L2.Tr
abbrev sD (x : Str) : D := .leaf (.str x)
def abc : Str := "abcdefghijklmnopqrstuvwxyz"
def isW (x : Str) : Bool := decide ((1 : Int) ≤ x.length) && (decide ((x.length : Int) ≤ 8) && x.cps.toList.all fun c => decide (c ∈ abc.cps.toList))
/-! statements -/
theorem seq_if_f {t : L2.Tr.Env → Option Bool} {Φa Φ : L2.Tr.Env → Option Out} {ρ : L2.Tr.Env} (h : t ρ = some false) : seqF (ifS t Φa skipF) Φ ρ = Φ ρ := by
  unfold seqF ifS
  rw [h]; rfl
theorem seq_if_t {t : L2.Tr.Env → Option Bool} {Φa Φ : L2.Tr.Env → Option Out} {ρ : L2.Tr.Env} {d : D} (h : t ρ = some true) (ha : Φa ρ = some (.rt d)) : seqF (ifS t Φa skipF) Φ ρ = some (.rt d) := by
  unfold seqF ifS
  rw [h, Option.bind_some, if_pos rfl, ha]; rfl
theorem seq_nx {Φ Ψ : L2.Tr.Env → Option Out} {ρ ρ2 : L2.Tr.Env} (h : Φ ρ = some (.nx ρ2)) : seqF Φ Ψ ρ = Ψ ρ2 := by
  unfold seqF
  rw [h]; rfl
theorem seq_rt {Φ Ψ : L2.Tr.Env → Option Out} {ρ : L2.Tr.Env} {d : D} (h : Φ ρ = some (.rt d)) : seqF Φ Ψ ρ = some (.rt d) := by
  unfold seqF
  rw [h]; rfl
theorem run_rt {n : Nat} {Φ : L2.Tr.Env → Option Out} {ds : List D} {d : D} (h : Φ (env0 n ds) = some (.rt d)) : runF n Φ ds = some d := by
  unfold runF
  rw [h]; rfl
theorem ret_f {φ : L2.Tr.Env → Option D} {ρ : L2.Tr.Env} {d : D} (h : φ ρ = some d) : retF φ ρ = some (.rt d) := by
  unfold retF
  rw [h]; rfl
theorem and_t {φ ψ : L2.Tr.Env → Option D} {ρ : L2.Tr.Env} (h : φ ρ = some (bD true)) : andF φ ψ ρ = ψ ρ := by
  unfold andF
  rw [h]; rfl
theorem and_f {φ ψ : L2.Tr.Env → Option D} {ρ : L2.Tr.Env} (h : φ ρ = some (bD false)) : andF φ ψ ρ = some (bD false) := by
  unfold andF
  rw [h]; rfl
theorem orB_f {χ ξ : L2.Tr.Env → Option Bool} {ρ : L2.Tr.Env} (h : χ ρ = some false) : orB χ ξ ρ = ξ ρ := by
  unfold orB
  rw [h]; rfl
theorem orB_t {χ ξ : L2.Tr.Env → Option Bool} {ρ : L2.Tr.Env} (h : χ ρ = some true) : orB χ ξ ρ = some true := by
  unfold orB
  rw [h]; rfl
theorem notB_ {χ : L2.Tr.Env → Option Bool} {ρ : L2.Tr.Env} {b : Bool} (h : χ ρ = some b) : notB χ ρ = some (!b) := by
  unfold notB
  rw [h]; rfl
theorem truB {φ : L2.Tr.Env → Option D} {ρ : L2.Tr.Env} {b : Bool} (h : φ ρ = some (bD b)) : truF φ ρ = some b := by
  unfold truF
  rw [h]; rfl
theorem asB_ {φ : L2.Tr.Env → Option D} {ρ : L2.Tr.Env} {b : Bool} (h : φ ρ = some (bD b)) : asBF φ ρ = some b := by
  unfold asBF
  rw [h]; rfl
theorem app_1 {β : Type} {op : List D → Option β} {φ : L2.Tr.Env → Option D} {ρ : L2.Tr.Env} {d : D} (h : φ ρ = some d) : app1 op (consD φ nilD) ρ = op [d] := by
  unfold app1 consD
  rw [h]; rfl
theorem app_2 {β : Type} {op : List D → Option β} {φ ψ : L2.Tr.Env → Option D} {ρ : L2.Tr.Env} {d e : D} (h : φ ρ = some d) (h2 : ψ ρ = some e) : app1 op (consD φ (consD ψ nilD)) ρ = op [d, e] := by
  unfold app1 consD
  rw [h, Option.bind_some, h2]; rfl
theorem bin_2 {β : Type} {op : D → D → Option β} {φ ψ : L2.Tr.Env → Option D} {ρ : L2.Tr.Env} {d e : D} (h : φ ρ = some d) (h2 : ψ ρ = some e) : bin2 op φ ψ ρ = op d e := by
  unfold bin2
  rw [h, Option.bind_some, h2]; rfl
theorem maps_ {ψ : L2.Tr.Env → Option (List D)} {ρ : L2.Tr.Env} {ds : List D} (h : ψ ρ = some ds) : mapS ψ ρ = some (.seq true ds) := by
  show (ψ ρ).map (D.seq true) = _
  rw [h]; rfl
/-! comprehensions that keep all, or some -/
theorem comp_map {θ : D → L2.Tr.Env → Option L2.Tr.Env} {χ : L2.Tr.Env → Option Bool} {φ : L2.Tr.Env → Option D} {ρ : L2.Tr.Env} {g : D → D} : ∀ {ds : List D}, (∀ d ∈ ds, ∃ ρ1, θ d ρ = some ρ1 ∧ χ ρ1 = some true ∧ φ ρ1 = some (g d)) → compF θ χ φ ds ρ = some (ds.map g)
  | [], _ => rfl
  | d :: ds, h => by
    obtain ⟨ρ1, h1, h2, h3⟩ := h d List.mem_cons_self
    unfold compF
    rw [h1, Option.bind_some, h2, Option.bind_some, if_pos rfl, h3, Option.bind_some, comp_map fun x hx => h x (List.mem_cons_of_mem _ hx)]
    rfl
theorem comp_flt {θ : D → L2.Tr.Env → Option L2.Tr.Env} {χ : L2.Tr.Env → Option Bool} {φ : L2.Tr.Env → Option D} {ρ : L2.Tr.Env} {p : D → Bool} {g : D → D} : ∀ {ds : List D}, (∀ d ∈ ds, ∃ ρ1, θ d ρ = some ρ1 ∧ χ ρ1 = some (p d) ∧ (p d = true → φ ρ1 = some (g d))) → compF θ χ φ ds ρ = some ((ds.filter p).map g)
  | [], _ => rfl
  | d :: ds, h => by
    obtain ⟨ρ1, h1, h2, h3⟩ := h d List.mem_cons_self
    unfold compF
    rw [h1, Option.bind_some, h2, Option.bind_some, comp_flt fun x hx => h x (List.mem_cons_of_mem _ hx), List.filter_cons]
    cases hp : p d with
    | true => rw [if_pos rfl, if_pos rfl, h3 hp]; rfl
    | false => rw [if_neg (by decide), if_neg (by decide)]
theorem bools_map : ∀ bs : List Bool, boolsOf (bs.map bD) = some bs
  | [] => rfl
  | b :: bs => by show (boolsOf (bs.map bD)).map (b :: ·) = _; rw [bools_map bs]; rfl
theorem all_map {α : Type} (f : α → Bool) (xs : List α) : allD [.seq true (xs.map fun x => bD (f x))] = some (bD (xs.all f)) := by
  show (boolsOf (xs.map fun x => bD (f x))).map (fun bs => bD (bs.all id)) = _
  have e : (xs.map fun x => bD (f x)) = (xs.map f).map bD := by rw [List.map_map]; rfl
  rw [e, bools_map]
  show some (bD ((xs.map f).all id)) = _
  rw [List.all_map]; rfl
theorem any_map {α : Type} (f : α → Bool) (xs : List α) : anyD [.seq true (xs.map fun x => bD (f x))] = some (bD (xs.any f)) := by
  show (boolsOf (xs.map fun x => bD (f x))).map (fun bs => bD (bs.any id)) = _
  have e : (xs.map fun x => bD (f x)) = (xs.map f).map bD := by rw [List.map_map]; rfl
  rw [e, bools_map]
  show some (bD ((xs.map f).any id)) = _
  rw [List.any_map]; rfl
/-! is_word -/
theorem w_str (x : Str) : fIsW [sD x] = some (bD (isW x)) := by
  have ev : fIsW [sD x] = (FIsW [.pu (sD x), .un]).bind fun o => match o with
    | .rt d => some d
    | .nx _ => some (.leaf .non)
    | _ => none := rfl
  rw [ev]
  have t0 : (orB (notB (truF (isF isStr (atP 0)))) (notB (asBF (chainF (intI fun i j => .bl (decide (i ≤ j))) (intI fun i j => .bl (decide (i ≤ j))) (kD (.leaf (.int 1))) (app1 lenA (consD (atP 0) nilD)) (kD (.leaf (.int 8))))))) [.pu (sD x), .un]
      = some (!(decide ((1 : Int) ≤ x.length) && decide ((x.length : Int) ≤ 8))) := by
    show (notB (asBF (chainF _ _ _ _ _))) [.pu (sD x), .un] = _
    show (Option.map (!·) ((((some (bD (decide ((1 : Int) ≤ x.length)))).bind asB).bind fun k => if k = true then (some (D.leaf (.int 8))).bind fun z => (intI fun i j => .bl (decide (i ≤ j))) (.leaf (.int x.length)) z else some (bD false)).bind asB)) = _
    cases decide ((1 : Int) ≤ x.length) <;> rfl
  have t1 : (retF (app1 allD (consD (mapS (lcF [1] (strsF (atP 0)) (setF 1) yesF (bin2 inSD (atP 1) (kD (.leaf (.str "abcdefghijklmnopqrstuvwxyz")))))) nilD))) [.pu (sD x), .un]
      = if x.cps.toList.length ≤ Lim then some (.rt (bD (x.cps.toList.all fun c => decide (c ∈ abc.cps.toList)))) else none := by
    have c1 : ((lcF [1] (strsF (atP 0)) (setF 1) yesF (bin2 inSD (atP 1) (kD (.leaf (.str "abcdefghijklmnopqrstuvwxyz")))))) [.pu (sD x), .un] = if x.cps.toList.length ≤ Lim then some (x.cps.toList.map fun c => bD (decide (c ∈ abc.cps.toList))) else none := by
      show (if (L2.Tr.signs x).length ≤ Lim then _ else none) = _
      have hl : (L2.Tr.signs x).length = x.cps.toList.length := by unfold L2.Tr.signs; rw [List.length_map]
      rw [hl]
      by_cases h : x.cps.toList.length ≤ Lim
      · rw [if_pos h, if_pos h]
        rw [comp_map (g := fun d => match d with
          | .leaf (.str u) => bD (decide (u.cps.getD 0 0 ∈ abc.cps.toList))
          | _ => bD false) fun d hd => ?_]
        · unfold L2.Tr.signs
          rw [List.map_map]
          rfl
        · unfold L2.Tr.signs at hd
          obtain ⟨c, hc, rfl⟩ := List.mem_map.mp hd
          exact ⟨_, rfl, rfl, rfl⟩
      · rw [if_neg h, if_neg h]
    show Option.map Out.rt ((((((lcF [1] (strsF (atP 0)) (setF 1) yesF (bin2 inSD (atP 1) (kD (.leaf (.str "abcdefghijklmnopqrstuvwxyz"))))) [.pu (sD x), .un]).map (D.seq true)).bind fun y => (some ([] : List D)).map (y :: ·))).bind allD) = _
    rw [c1]
    by_cases h : x.cps.toList.length ≤ Lim
    · rw [if_pos h, if_pos h]
      show Option.map Out.rt (allD [.seq true _]) = _
      rw [all_map]; rfl
    · rw [if_neg h, if_neg h]; rfl
  have sh : FIsW [.pu (sD x), .un] = if (!(decide ((1 : Int) ≤ x.length) && decide ((x.length : Int) ≤ 8))) = true then some (.rt (bD false)) else some (.rt (bD (x.cps.toList.all fun c => decide (c ∈ abc.cps.toList)))) := by
    show (((orB _ _) [.pu (sD x), .un]).bind fun k => if k = true then _ else _).bind _ = _
    rw [t0]
    by_cases h : (decide ((1 : Int) ≤ x.length) && decide ((x.length : Int) ≤ 8)) = true
    · rw [h]
      show (retF _) [.pu (sD x), .un] = _
      rw [t1]
      have hl : x.cps.toList.length ≤ Lim := by
        rw [Bool.and_eq_true, decide_eq_true_eq, decide_eq_true_eq] at h
        have e : x.length = x.cps.toList.length := by rw [Array.length_toList]; rfl
        have : Lim = 5000 := rfl
        omega
      rw [if_pos hl]; rfl
    · rw [Bool.not_eq_true] at h
      rw [h]; rfl
  rw [sh]
  unfold isW
  cases h1 : decide ((1 : Int) ≤ x.length) <;> cases h2 : decide ((x.length : Int) ≤ 8) <;> rfl
theorem w_non : fIsW [.leaf .non] = some (bD false) := rfl
theorem w_int (i : Int) : fIsW [.leaf (.int i)] = some (bD false) := rfl
theorem w_bl (i : Bool) : fIsW [.leaf (.bl i)] = some (bD false) := rfl
theorem w_seq (b : Bool) (ds : List D) : fIsW [.seq b ds] = some (bD false) := rfl
theorem w_dct (ks : List Key) (ds : List D) : fIsW [.dct ks ds] = some (bD false) := rfl
theorem l_seq (b : Bool) (ds : List D) : fIsL [.seq b ds] = some (bD true) := by cases b <;> rfl
theorem n_str (x : Str) : fIsN [sD x] = some (bD (isW x && decide (x ≠ "number"))) := by
  show (((fIsW [sD x]).bind fun y => (truD y).bind fun k => if k = true then (bin2 (scD true) (atP 0) (kD (.leaf (.str "number")))) [.pu (sD x)] else some y).map Out.rt).bind _ = _
  rw [w_str]
  cases isW x with
  | false => rfl
  | true =>
    show some (bD (xor true (decide (V.str x = V.str "number")))) = some (bD (decide (x ≠ "number")))
    congr 2
    by_cases h : x = "number"
    · subst h; rfl
    · rw [decide_eq_false (fun z => h (V.str.inj z)), decide_eq_true h]; rfl
end L2.K1

namespace L2.K1
open PySem PySem.Spec PyProof.Rows
abbrev sWord : Stmt := top 55
/-- a word of one to eight letters -/
def spWord : Sp := fun vs H Q _ => ∃ (a b : Addr) (n : Nat), vs = [.ref a] ∧ StO H a b n ∧ n + 9 ≤ 1000000 ∧
  ∀ (x : Str) (H' : Hp), isW x = true → StO H' a b (n + 9) → Kp (two a b) H H' → Q (.str x) H'
theorem StO.new {H : Hp} {a b p : Addr} {n : Nat} {o : HO} (s : StO H a b n) (h : H p = none) : StO (upd H p o) a b n := s.kp fun c u e => by rw [upd_ne (ne_of_none e h)]; exact e
theorem Kp.new {S : Addr → Prop} {H : Hp} {p : Addr} {o : HO} (h : H p = none) : Kp S H (upd H p o) := fun c u e _ => by rw [upd_ne (ne_of_none e h)]; exact e
section
variable {P : Program} {w : World} {K : PySem.W.Frag} {mg : Str → Option Value} {base : Heap}
abbrev nWord : List Str := ["_law_stream", "_law_size", "_law_k"]
theorem scWord : FnScope nWord ["_law_stream"] (defScope sWord) := ⟨rfl, rfl, rfl, by decide +kernel, rfl, by decide +kernel, by decide +kernel⟩
theorem glue_list : ∀ (ys : List Str) (acc : Array Nat), (ys.foldl (fun acc p => acc ++ (Str.ofString "").cps ++ p.cps) acc).toList = acc.toList ++ ys.flatMap fun y => y.cps.toList
  | [], acc => by rw [List.flatMap_nil, List.append_nil]; rfl
  | y :: ys, acc => by
    have e : (Str.ofString "").cps = #[] := by decide +kernel
    rw [List.foldl_cons, glue_list ys, List.flatMap_cons, e, Array.append_empty, Array.toList_append, List.append_assoc]
theorem join_cps : ∀ ys : List Str, ys ≠ [] → (Txt.join "" ys).cps.toList = ys.flatMap fun y => y.cps.toList
  | [], h => absurd rfl h
  | y :: ys, _ => by
    show (ys.foldl (fun acc p => acc ++ (Str.ofString "").cps ++ p.cps) y.cps).toList = _
    rw [glue_list, List.flatMap_cons]
theorem signs_flat : ∀ {ys : List Str}, (∀ y ∈ ys, ∃ c ∈ abc.cps.toList, y = ⟨#[c]⟩) → (ys.flatMap fun y => y.cps.toList).length = ys.length ∧ (∀ c ∈ ys.flatMap (fun y => y.cps.toList), c ∈ abc.cps.toList) ∧ (ys.map (·.length)).sum = ys.length
  | [], _ => ⟨rfl, fun c hc => (List.not_mem_nil hc).elim, rfl⟩
  | y :: ys, h => by
    obtain ⟨c, hc, rfl⟩ := h y List.mem_cons_self
    obtain ⟨h1, h2, h3⟩ := signs_flat fun z hz => h z (List.mem_cons_of_mem _ hz)
    refine ⟨?_, fun z hz => ?_, ?_⟩
    · rw [List.flatMap_cons, List.length_append, h1]
      show 1 + ys.length = ys.length + 1
      omega
    · rw [List.flatMap_cons] at hz
      rcases List.mem_append.mp hz with q | q
      · have : z = c := by simpa using q
        rw [this]; exact hc
      · exact h2 z q
    · rw [List.map_cons, List.sum_cons, h3, List.length_cons]
      show 1 + ys.length = ys.length + 1
      omega
theorem join_isW {ys : List Str} (h1 : 1 ≤ ys.length) (h8 : ys.length ≤ 8) (h : ∀ y ∈ ys, ∃ c ∈ abc.cps.toList, y = ⟨#[c]⟩) : isW (Txt.join "" ys) = true ∧ (ys.map (·.length)).sum ≤ 8 := by
  have hne : ys ≠ [] := fun z => by rw [z] at h1; simp at h1
  obtain ⟨g1, g2, g3⟩ := signs_flat h
  have e := join_cps ys hne
  have hl : (Txt.join "" ys).length = ys.length := by
    have : (Txt.join "" ys).length = (Txt.join "" ys).cps.toList.length := by rw [Array.length_toList]; rfl
    rw [this, e, g1]
  refine ⟨?_, by omega⟩
  unfold isW
  rw [hl, e, decide_eq_true (by omega), decide_eq_true (by omega), List.all_eq_true.mpr fun c hc => decide_eq_true (g2 c hc)]
  rfl
theorem ok_word {f fdr fpk : Addr} {fd ddr dpk : FuncData} (F : Fun K "_law_word" "_law_word" sWord f fd) (hrange : mg "range" = none) (m_dr : mg "_law_draw" = some (.ref fdr)) (k_dr : PySem.W.keepIn K (.ref fdr) = true) (GD : FnOk P w K mg base CX0 1 fdr ddr ["_law_stream", "_law_many"] spDraw) (bD : Binds K ddr ["_law_stream", "_law_many"] [])
    (m_pk : mg "_law_pick" = some (.ref fpk)) (k_pk : PySem.W.keepIn K (.ref fpk) = true) (GP : FnOk P w K mg base CX0 2 fpk dpk ["_law_stream", "_law_some_here"] spPickS) (bP : Binds K dpk ["_law_stream", "_law_some_here"] []) :
    FnOk P w K mg base CX0 3 f fd ["_law_stream"] spWord := by
  refine F.ok scWord (fun vs H Q E h => ?_) (fun cdv A outer s H vs Q E hr h => ?_)
  · obtain ⟨a, b, n, rfl, _⟩ := h
    rfl
  · obtain ⟨a, b, n, rfl, S, hn, k⟩ := h
    refine ⟨_, (pss_cons (ps_set (i := 1) scWord.nd rfl (by first | exact Or.inl rfl | exact Or.inr rfl) (pe_ix ix_list (pe_lst (pa_cons pe_int (pa_cons pe_int (pa_cons pe_int (pa_cons pe_int (pa_cons pe_int (pa_cons pe_int pa_nil))))))) (pe_call GD (hr.mono (by decide)) rfl m_dr k_dr bD .nil pass0 (pa_cons (pv 0) (pa_cons pe_int pa_nil))) (fun _ _ => rfl)))
      (pss_one (ps_ret (pe_join pe_str (pe_lc (own := [("_law_k", 2)]) rfl scWord.nd (pi_range1 (by rfl) hrange (pa_cons (pv 1) pa_nil)) (blkOk_by (N := nWord) (sc := defScope sWord) (by decide +kernel)) (fun _ _ _ _ _ => pg_name (i := 2) scWord.nd rfl (Or.inl rfl)) (fun _ _ _ _ _ => pts_nil)
        (fun _ _ _ _ _ => pe_call GP (hr.mono (by decide)) rfl m_pk k_pk bP .nil pass0 (pa_cons (pv 0) (pa_cons pe_str pa_nil)))))))), ?_⟩
    refine ⟨by show 6 ≤ sizeLine; decide, fun p np => ⟨_, rfl, a, b, 6, n, rfl, S.new np, by omega, by decide, by decide, fun d H1 hd0 hd S1 k1 => ?_⟩⟩
    have kp : Kp (two a b) H H1 := (Kp.new np).trans k1
    have hpa : p ≠ a := fun z => by
      obtain ⟨ns, c1, c2, c3, g1, g2, _⟩ := S.ex
      rw [z, g1] at np; cases np
    have hpb : p ≠ b := fun z => by
      obtain ⟨ns, c1, c2, c3, g1, g2, _⟩ := S.ex
      rw [z, g2] at np; cases np
    have hp1 : H1 p = some (.lst [.int 1, .int 1, .int 2, .int 3, .int 4, .int 8]) := k1 _ _ upd_same (fun z => z.elim hpa hpb)
    obtain ⟨m, hm1, hm8, hat⟩ : ∃ m : Nat, 1 ≤ m ∧ m ≤ 8 ∧ atI [V.int 1, V.int 1, V.int 2, V.int 3, V.int 4, V.int 8] d = some (.int (m : Nat)) := by
      obtain ⟨j, rfl⟩ := Int.eq_ofNat_of_zero_le hd0
      have hj : j < 6 := by have : ((j : Nat) : Int) < 6 := hd; omega
      have : j = 0 ∨ j = 1 ∨ j = 2 ∨ j = 3 ∨ j = 4 ∨ j = 5 := by omega
      rcases this with rfl | rfl | rfl | rfl | rfl | rfl
      · exact ⟨1, by omega, by omega, rfl⟩
      · exact ⟨1, by omega, by omega, rfl⟩
      · exact ⟨2, by omega, by omega, rfl⟩
      · exact ⟨3, by omega, by omega, rfl⟩
      · exact ⟨4, by omega, by omega, rfl⟩
      · exact ⟨8, by omega, by omega, rfl⟩
    refine ⟨p, _, _, _, rfl, rfl, SqL.of hp1, hat, ?_⟩
    refine ⟨⟨_, rfl⟩, _, rfl, (m : Nat), rfl, by omega, by omega, fun D nD => ?_⟩
    have nDH : H D = none := S1.free kp nD
    have hDa : D ≠ a := fun z => by
      obtain ⟨ns, c1, c2, c3, g1, g2, _⟩ := S1.ex
      rw [z, g1] at nD; cases nD
    have hDb : D ≠ b := fun z => by
      obtain ⟨ns, c1, c2, c3, g1, g2, _⟩ := S1.ex
      rw [z, g2] at nD; cases nD
    have sUp : ∀ {H' : Hp} {n' : Nat} {o : HO}, StO H' a b n' → StO (upd H' D o) a b n' := fun {H' n' o} s => by
      obtain ⟨ns, c1, c2, c3, g1, g2, g⟩ := s.ex
      exact ⟨ns, c1, c2, c3, by rw [upd_ne (Ne.symm hDa)]; exact g1, by rw [upd_ne (Ne.symm hDb)]; exact g2, g⟩
    have kUp : ∀ {H' : Hp} {o : HO}, Kp (two a b) H H' → Kp (two a b) H (upd H' D o) := fun {H' o} kk c u e ns => by
      rw [upd_ne (ne_of_none e nDH)]; exact kk c u e ns
    refine lc_it walk_range (fun i H' => ∃ ys : List Str, H' D = some (.lst (ys.map V.str)) ∧ ys.length = i ∧ (∀ y ∈ ys, ∃ c ∈ abc.cps.toList, y = ⟨#[c]⟩) ∧ StO H' a b (n + 1 + i) ∧ Kp (two a b) H H') ⟨[], upd_same, rfl, fun y hy => (List.not_mem_nil hy).elim, sUp S1, kUp kp⟩ (fun _ _ _ _ => trivial) ?_ ?_
    · rintro i x H2 H3 hi ⟨ys, g1, g2, g3, S2, k2⟩ ⟨rfl, rfl⟩
      refine ⟨rfl, ?_⟩
      unfold tYes
      dsimp only
      rw [if_pos rfl]
      have hi8 : i < m := by simpa using hi
      refine ⟨_, rfl, a, b, abc, n + 1 + i, rfl, S2, by omega, by decide +kernel, by decide +kernel, fun c H4 hc S4 k4 => ?_⟩
      have g4 := k4 _ _ g1 (fun z => z.elim hDa hDb)
      refine ⟨_, g4, by rw [List.length_map, sizeLine_eq]; omega, ys ++ [⟨#[c]⟩], by rw [upd_same, List.map_append]; rfl, by rw [List.length_append, List.length_singleton]; omega, fun y hy => ?_, sUp S4, kUp (k2.trans k4)⟩
      rcases List.mem_append.mp hy with q | q
      · exact g3 y q
      · exact ⟨c, hc, List.mem_singleton.mp q⟩
    · rintro H2 ⟨ys, g1, g2, g3, S2, k2⟩
      have e : ys.length = m := by rw [g2]; simp
      obtain ⟨w1, w2⟩ := join_isW (by omega) (by omega) g3
      refine ⟨"", D, ys, rfl, rfl, .inl (SqL.of g1), by show _ + ys.length * 0 ≤ _; omega, ?_⟩
      exact k _ _ w1 (S2.le (by rw [← g2, e]; omega)) k2
end
end L2.K1

/-! The stream beside trees. -/
namespace L2.K1
open PySem PySem.Spec PyProof.Rows L2.Tr
/-- the stream at a, its rest at b -/
def St (a b : Addr) : Om Nat where
  I := fun n H => StO H a b n
  F := fun _ c => c = a ∨ c = b
  ext := fun n H H' s e => by
    obtain ⟨ns, c1, c2, c3, h1, h2, h⟩ := s.ex
    exact ⟨ns, c1, c2, c3, e _ _ (.inl rfl) h1, e _ _ (.inr rfl) h2, h⟩
  has := fun n H c s h => by
    obtain ⟨ns, c1, c2, c3, h1, h2, _⟩ := s.ex
    rcases h with rfl | rfl
    · rw [h1]; exact fun z => nomatch z
    · rw [h2]; exact fun z => nomatch z
/-- what a def with the stream promises -/
def spS (f : Addr → List D → Nat → (D → Nat → Prop) → Prop) : Sp := fun vs H Q E => ∃ j : Addr × Addr, spW (St j.1 j.2) (f j.1) vs H Q E
theorem subS {f : Addr → List D → Nat → (D → Nat → Prop) → Prop} {a b : Addr} : ∀ vs H Q, spW (St a b) (f a) vs H Q E0 → spS f vs H Q E0 := fun vs H Q h => ⟨(a, b), h⟩
/-- a stronger promise -/
theorem spS_imp {f g : Addr → List D → Nat → (D → Nat → Prop) → Prop} (h : ∀ a ds n R, g a ds n R → f a ds n R) : ∀ vs H Q E, spS g vs H Q E → spS f vs H Q E := fun vs H Q E ⟨j, s, G, ds, R, x, i, o, r, e, k⟩ => ⟨j, s, G, ds, R, x, i, o, r, h _ _ _ _ e, k⟩
/-- the footprint's frame, as a stream's -/
theorem St.fr {a b : Addr} {G G2 H H' : Hp} {n m : Nat} (x : Ex G H) (i : StO H a b n) (o : ∀ c, c = a ∨ c = b → G c = none) (s : StO H' a b m) (k : Kp (two a b) H H') : FrW (St a b) n G H m G H' := by
  refine ⟨Ex.refl _, fun c u h => k c u (x c u h) fun z => ?_, fun c u h z => k c u h z, fun c _ h => h, s, fun c z => .inl z, fun c z => (St a b).has m H' c s z, o⟩
  rw [o c z] at h; cases h
def drawW (a : Addr) : List D → Nat → (D → Nat → Prop) → Prop := fun ds n R => ∃ m : Int, ds = [.leaf (.ref a), .leaf (.int m)] ∧ 0 < m ∧ m < 1000000 ∧ n ≤ 1000000 ∧ ∀ i : Int, 0 ≤ i → i < m → R (.leaf (.int i)) (n + 1)
theorem subDraw {a b : Addr} : ∀ vs H Q, spW (St a b) (drawW a) vs H Q E0 → spDraw vs H Q E0 := fun vs H Q ⟨n, G, ds, R, x, i, o, r, ⟨m, e, h1, h2, h3, h4⟩, k⟩ => by
  subst e
  obtain ⟨u, us, rfl, r1, r2⟩ := r.un
  obtain ⟨u2, us2, rfl, r3, r4⟩ := r2.un
  obtain ⟨rfl, _⟩ := r1.un_lf
  obtain ⟨rfl, _⟩ := r3.un_lf
  rw [r4.un0]
  exact ⟨a, b, m, n, rfl, i, h3, h1, h2, fun d H' d0 d1 s kp => k _ _ (n + 1) G H' (h4 d d0 d1) (St.fr (G2 := G) x i o s kp) (.lf rfl)⟩
/-- a word -/
def wordW (a : Addr) : List D → Nat → (D → Nat → Prop) → Prop := fun ds n R => ds = [.leaf (.ref a)] ∧ n + 9 ≤ 1000000 ∧ ∀ x : Str, isW x = true → R (sD x) (n + 9)
theorem isW_lf {x : Str} (h : isW x = true) : leafy (.str x) = true := by
  unfold isW at h
  rw [Bool.and_eq_true, Bool.and_eq_true, decide_eq_true_eq] at h
  have h2 := of_decide_eq_true h.2.1
  exact decide_eq_true (by omega)
theorem subWord {a b : Addr} : ∀ vs H Q, spW (St a b) (wordW a) vs H Q E0 → spWord vs H Q E0 := fun vs H Q ⟨n, G, ds, R, x, i, o, r, ⟨e, h1, h2⟩, k⟩ => by
  subst e
  obtain ⟨u, us, rfl, r1, r2⟩ := r.un
  obtain ⟨rfl, _⟩ := r1.un_lf
  rw [r2.un0]
  exact ⟨a, b, n, rfl, i, h1, fun y H' hy s kp => k _ _ (n + 9) G H' (h2 y hy) (St.fr (G2 := G) x i o s kp) (.lf (isW_lf hy))⟩
end L2.K1

namespace L2.K1
open PySem PySem.Spec PyProof.Rows L2.Tr
section
variable {P : Program} {w : World} {K : PySem.W.Frag} {mg : Str → Option Value} {base : Heap}
abbrev sPickW : Stmt := top 53
abbrev nPickW : List Str := ["_law_stream", "_law_some_here"]
theorem scPickW : FnScope nPickW ["_law_stream", "_law_some_here"] (defScope sPickW) := ⟨rfl, rfl, rfl, by decide +kernel, rfl, by decide +kernel, by decide +kernel⟩
def FPickW (a : Addr) : WF Nat Ou := (retW (b2W ixD (lf (atP 1)) (callW (drawW a) (consW (lf (atP 0)) (consW (lf (app1 lenA (consD (atP 1) nilD))) nilW)))))
def fPickW (a : Addr) : List D → Nat → (D → Nat → Prop) → Prop := fun ds s R => ds.length = (["_law_stream", "_law_some_here"] : List Str).length ∧ runW nPickW.length (FPickW a ) ds s R
theorem okPickW {f : Addr} {fd : FuncData} (F : Fun K "_law_pick" "_law_pick" sPickW f fd) (B : TxB2 mg) (hDr : FnE P w K mg base "_law_draw" 1 spDraw) : FnOk P w K mg base CX0 2 f fd ["_law_stream", "_law_some_here"] (spS fun a => fPickW a ) :=
  ok_defW (N := nPickW) (Ωs := fun j : Addr × Addr => St j.1 j.2) (Φs := fun j => FPickW j.1 ) F scPickW fun j cdv A outer s H E hr => ⟨_, (ssw_one (sw_ret (pw_ix (PuD.w (pu_var (pv 1))) (pw_call hDr subDraw (hr.mono (by first | decide | omega)) (by rfl) (aw_cons (PuD.w (pu_var (pv 0))) (aw_cons (PuD.w (pu_cb (CallR.or call_len call_lenD) (R1D.or r1_len r1_lenK) (by rfl) B.z_len (by decide +kernel) (av_cons (PuD.vi (pu_var (pv 1))) av_nil))) aw_nil))) (fun _ _ => rfl))))⟩
abbrev sWords : Stmt := top 56
abbrev nWords : List Str := ["_law_stream", "_law_many", "_law_found", "_law_k", "_law_word_here", "_law_spare_here", "_law_letter", "_law_one"]
theorem scWords : FnScope nWords ["_law_stream", "_law_many"] (defScope sWords) := ⟨rfl, rfl, rfl, by decide +kernel, rfl, by decide +kernel, by decide +kernel⟩
def FWords (a : Addr) : WF Nat Ou := (seqW (lfS (asgO 2 (lstDisp nilD))) (seqW (forW (lf (rngF (atP 1))) (setF 3) (seqW (setW 4 (svP (callW (wordW a) (consW (lf (atP 0)) nilW)))) (lfS (seqF (asgF (bin2 addD (mapS (lstDisp (consD (atP 4) nilD))) (mapS (lcF [6] (strsF (kD (.leaf (.str "abcdefghijklmnop")))) (setF 6) yesF (bin2 addD (bin2 addD (atP 6) (kD (.leaf (.str "q")))) (atP 6))))) (setF 5)) (growF 2 (bin2 ixD (mapS (lcF [7] (seqsF (atP 5)) (setF 7) (andB (asBF (bin2 (inD true) (atP 7) (atV 2))) (asBF (bin2 (scD true) (atP 7) (kD (.leaf (.str "number")))))) (atP 7))) (kD (.leaf (.int 0)))) fun xs d => xs ++ [d]))))) (lfS (retO 2))))
def fWords (a : Addr) : List D → Nat → (D → Nat → Prop) → Prop := fun ds s R => ds.length = (["_law_stream", "_law_many"] : List Str).length ∧ runW nWords.length (FWords a ) ds s R
theorem okWords {f : Addr} {fd : FuncData} (F : Fun K "_law_words" "_law_words" sWords f fd) (B : TxB2 mg) (hWd : FnE P w K mg base "_law_word" 3 spWord) : FnOk P w K mg base CX0 4 f fd ["_law_stream", "_law_many"] (spS fun a => fWords a ) :=
  ok_defW (N := nWords) (Ωs := fun j : Addr × Addr => St j.1 j.2) (Φs := fun j => FWords j.1 ) F scWords fun j cdv A outer s H E hr => ⟨_, (ssw_cons (StD.w (sd_nmO (ow_lst ar_nil) (fun h => ps_set (i := 2) scWords.nd rfl (by first | exact Or.inl rfl | exact Or.inr rfl) h))) (ssw_cons (sw_for PassesOwn.never rfl (ItD.w (it_rng (pu_var (pv 1)) (by rfl) B.z_range)) (tg_name (pg_name (i := 3) scWords.nd rfl (by first | exact Or.inl rfl | exact Or.inr rfl))) (ssw_cons (sw_set (i := 4) (PuW.sv (pw_call hWd subWord (hr.mono (by first | decide | omega)) (by rfl) (aw_cons (PuD.w (pu_var (pv 0))) aw_nil))) (fun h => ps_set (i := 4) scWords.nd rfl (by first | exact Or.inl rfl | exact Or.inr rfl) h)) (SsD.w (ss_cons (sd_nm (pu_add (PuD.vi (OwD.pu (ow_lst (ar_cons (pu_var (pv 4)) ar_nil)))) (PuD.vi (OwD.pu (LcD.ow (lc0 [("_law_letter", 6)] (it_str (pu_c pe_str (by decide +kernel))) (blkOk_by (N := nWords) (sc := defScope sWords) (by decide +kernel)) (fun _ _ _ _ _ => (tg_name (pg_name (i := 6) scWords.nd rfl (Or.inl rfl)))) (fun _ _ _ _ _ => (tw_name (by decide))) (fun _ _ _ _ _ => (pu_add (PuD.vi (pu_add (PuD.vi (pu_var (pv 6))) (PuD.vi (pu_c pe_str (by decide +kernel))))) (PuD.vi (pu_var (pv 6)))))) rfl scWords.nd)))) (fun h => ps_set (i := 5) scWords.nd rfl (by first | exact Or.inl rfl | exact Or.inr rfl) h)) (ss_one (sd_appK (i := 2) (pu_ix (PuD.vi (OwD.pu (LcD.ow (lcI [("_law_one", 7)] (it_seq (pu_var (pv 5))) (blkOk_by (N := nWords) (sc := defScope sWords) (by decide +kernel)) (fun _ _ _ _ _ => (tg_name (pg_name (i := 7) scWords.nd rfl (Or.inl rfl)))) (fun _ _ _ _ _ => (tw_name (by decide))) (fun _ _ _ _ _ => (TwD.te (tw_and (te_cmp op_notIn_seq r2_in (by with_unfolding_all rfl) (PuD.vi (pu_var (pv 7))) (vi_var (pv 2))) (tw_and1 (te_cmp op_ne r2_neS (nomark _) (PuD.vi (pu_var (pv 7))) (PuD.vi (pu_c pe_str (by decide +kernel)))))))) (fun _ _ _ _ _ => (pu_var (pv 7)))) rfl scWords.nd))) (PuD.vi (pu_c pe_int rfl)) (fun _ _ => rfl)) (fun h => ps_expr (pe_bm PySem.F.plainAttrs_list PySem.F.slot_list_append PySem.F.type_list_append mt_append (pv 2) (pa_cons h pa_nil))))))))) (SsD.w (ss_one (sd_retO (pv 2))))))⟩
abbrev sWorld : Stmt := top 43
abbrev nWorld : List Str := ["_law_stream", "_law_shapes", "_law_counts", "_law_free", "_law_drawn", "_law_names", "_law_values", "_law_left", "_law_many"]
theorem scWorld : FnScope nWorld ["_law_stream", "_law_shapes"] (defScope sWorld) := ⟨rfl, rfl, rfl, by decide +kernel, rfl, by decide +kernel, by decide +kernel⟩
def FWorld (a : Addr) : WF Nat Ou := (seqW (asgW (callW (fPickW a) (consW (lf (atP 0)) (consW (lf (atP 1)) nilW))) (tupT 2 (consT (setF 2) (consT (setF 3) nilT)))) (seqW (setW 4 (svP (callW (fWords a) (consW (lf (atP 0)) (consW (lf (bin2 addD (bin2 addD (bin2 addD (app1 lenA (consD (atP 2) nilD)) (atP 3)) (app1 sumD (consD (atP 2) nilD))) (kD (.leaf (.int 2))))) nilW))))) (seqW (par2W 5 6 (svP (lf (orE (mapS (slF slO (atP 4) (fun _ => some none) (partF (bin2 addD (app1 lenA (consD (atP 2) nilD)) (atP 3))))) (slF slT (atP 4) (fun _ => some none) (partF (bin2 addD (app1 lenA (consD (atP 2) nilD)) (atP 3))))))) (svO (lf (mapS (lstDisp nilD))))) (seqW (lfS (asgF (orE (mapS (slF slO (atP 4) (partF (bin2 addD (app1 lenA (consD (atP 2) nilD)) (atP 3))) (fun _ => some none))) (slF slT (atP 4) (partF (bin2 addD (app1 lenA (consD (atP 2) nilD)) (atP 3))) (fun _ => some none))) (setF 7))) (seqW (lfS (forF (seqsF (atP 2)) (setF 8) (seqF (growF 6 (app1 tupD (consD (orE (mapS (slF slO (atP 7) (fun _ => some none) (partF (atP 8)))) (slF slT (atP 7) (fun _ => some none) (partF (atP 8)))) nilD)) fun xs d => xs ++ [d]) (asgF (orE (mapS (slF slO (atP 7) (partF (atP 8)) (fun _ => some none))) (slF slT (atP 7) (partF (atP 8)) (fun _ => some none))) (setF 7))))) (seqW (ifSW (andW (lf (asBF (chainF (eqP false) (eqP true) (orE (mapS (slF slO (atP 2) (fun _ => some none) (partF (kD (.leaf (.int 1)))))) (slF slT (atP 2) (fun _ => some none) (partF (kD (.leaf (.int 1)))))) (orE (mapS (slF slO (atP 2) (partF (kD (.leaf (.int 1)))) (partF (kD (.leaf (.int 2)))))) (slF slT (atP 2) (partF (kD (.leaf (.int 1)))) (partF (kD (.leaf (.int 2)))))) (mapS (lstDisp nilD))))) (asW (b2W (scD false) (callW (drawW a) (consW (lf (atP 0)) (consW (lf (kD (.leaf (.int 2)))) nilW))) (lf (kD (.leaf (.int 0))))))) (lputW 6 1 (lf (bin2 ixD (atV 6) (kD (.leaf (.int 0)))))) (lfS skipF)) (lfS (retF (dispF ["names", "values", "named"] (consD (atP 5) (consD (bin2 addD (atV 6) (mapS (bin2 repO (mapS (lstDisp (consD (kD (.leaf .non)) nilD))) (atP 3)))) (consD (atP 7) nilD))))))))))))
def fWorld (a : Addr) : List D → Nat → (D → Nat → Prop) → Prop := fun ds s R => ds.length = (["_law_stream", "_law_shapes"] : List Str).length ∧ runW nWorld.length (FWorld a ) ds s R
theorem okWorld {f : Addr} {fd : FuncData} (F : Fun K "_law_world" "_law_world" sWorld f fd) (B : TxB2 mg) (hDr : FnE P w K mg base "_law_draw" 1 spDraw) (hPk : FnE P w K mg base "_law_pick" 2 (spS fPickW)) (hWs : FnE P w K mg base "_law_words" 4 (spS fWords)) : FnOk P w K mg base CX0 5 f fd ["_law_stream", "_law_shapes"] (spS fun a => fWorld a ) :=
  ok_defW (N := nWorld) (Ωs := fun j : Addr × Addr => St j.1 j.2) (Φs := fun j => FWorld j.1 ) F scWorld fun j cdv A outer s H E hr => ⟨_, (ssw_cons (sw_asg (pw_call hPk subS (hr.mono (by first | decide | omega)) (by rfl) (aw_cons (PuD.w (pu_var (pv 0))) (aw_cons (PuD.w (pu_var (pv 1))) aw_nil))) (tg_tup rfl (tgs_cons (tg_name (pg_name (i := 2) scWorld.nd rfl (by first | exact Or.inl rfl | exact Or.inr rfl))) (tgs_cons (tg_name (pg_name (i := 3) scWorld.nd rfl (by first | exact Or.inl rfl | exact Or.inr rfl))) tgs_nil)))) (ssw_cons (sw_set (i := 4) (PuW.sv (pw_call hWs subS (hr.mono (by first | decide | omega)) (by rfl) (aw_cons (PuD.w (pu_var (pv 0))) (aw_cons (PuD.w (pu_add (PuD.vi (pu_add (PuD.vi (pu_add (PuD.vi (pu_cb (CallR.or call_len call_lenD) (R1D.or r1_len r1_lenK) (by rfl) B.z_len (by decide +kernel) (av_cons (PuD.vi (pu_var (pv 2))) av_nil))) (PuD.vi (pu_var (pv 3))))) (PuD.vi (pu_cb (cr_sum rfl) r1_sum (by rfl) B.z_sum (by decide +kernel) (av_cons (PuD.vi (pu_var (pv 2))) av_nil))))) (PuD.vi (pu_c pe_int rfl)))) aw_nil)))) (fun h => ps_set (i := 4) scWorld.nd rfl (by first | exact Or.inl rfl | exact Or.inr rfl) h)) (ssw_cons (sw_par2 (PuW.sv (PuD.w (PuD.or (OwD.pu (ow_sl (PuD.vi (pu_var (pv 4))) so_none (so_some (pu_add (PuD.vi (pu_cb (CallR.or call_len call_lenD) (R1D.or r1_len r1_lenK) (by rfl) B.z_len (by decide +kernel) (av_cons (PuD.vi (pu_var (pv 2))) av_nil))) (PuD.vi (pu_var (pv 3))))))) (pu_slT (PuD.vi (pu_var (pv 4))) so_none (so_some (pu_add (PuD.vi (pu_cb (CallR.or call_len call_lenD) (R1D.or r1_len r1_lenK) (by rfl) B.z_len (by decide +kernel) (av_cons (PuD.vi (pu_var (pv 2))) av_nil))) (PuD.vi (pu_var (pv 3))))))))) (OwW.sv (OwD.w (ow_lst ar_nil))) (fun h => ps_par (i := 5) (j := 6) rfl scWorld.nd rfl rfl (by decide) rfl rfl h (by rfl))) (ssw_cons (StD.w (sd_nm (PuD.or (OwD.pu (ow_sl (PuD.vi (pu_var (pv 4))) (so_some (pu_add (PuD.vi (pu_cb (CallR.or call_len call_lenD) (R1D.or r1_len r1_lenK) (by rfl) B.z_len (by decide +kernel) (av_cons (PuD.vi (pu_var (pv 2))) av_nil))) (PuD.vi (pu_var (pv 3))))) so_none)) (pu_slT (PuD.vi (pu_var (pv 4))) (so_some (pu_add (PuD.vi (pu_cb (CallR.or call_len call_lenD) (R1D.or r1_len r1_lenK) (by rfl) B.z_len (by decide +kernel) (av_cons (PuD.vi (pu_var (pv 2))) av_nil))) (PuD.vi (pu_var (pv 3))))) so_none)) (fun h => ps_set (i := 7) scWorld.nd rfl (by first | exact Or.inl rfl | exact Or.inr rfl) h))) (ssw_cons (StD.w (sd_for PassesOwn.never rfl (it_seq (pu_var (pv 2))) (tg_name (pg_name (i := 8) scWorld.nd rfl (by first | exact Or.inl rfl | exact Or.inr rfl))) (ss_cons (sd_appK (i := 6) (pu_cty call_tuple_of r1_tup (by rfl) B.z_tuple (by decide +kernel) (av_cons (PuD.vi (PuD.or (OwD.pu (ow_sl (PuD.vi (pu_var (pv 7))) so_none (so_some (pu_var (pv 8))))) (pu_slT (PuD.vi (pu_var (pv 7))) so_none (so_some (pu_var (pv 8)))))) av_nil)) (fun h => ps_expr (pe_bm PySem.F.plainAttrs_list PySem.F.slot_list_append PySem.F.type_list_append mt_append (pv 6) (pa_cons h pa_nil)))) (ss_one (sd_nm (PuD.or (OwD.pu (ow_sl (PuD.vi (pu_var (pv 7))) (so_some (pu_var (pv 8))) so_none)) (pu_slT (PuD.vi (pu_var (pv 7))) (so_some (pu_var (pv 8))) so_none)) (fun h => ps_set (i := 7) scWorld.nd rfl (by first | exact Or.inl rfl | exact Or.inr rfl) h)))))) (ssw_cons (sw_if (TwW.te (tww_and (TeD.w (te_chain (op_eqD (hr.units)) (op_neD (hr.units)) r2_eqD r2_neD (PuD.vi (PuD.or (OwD.pu (ow_sl (PuD.vi (pu_var (pv 2))) so_none (so_some (pu_c pe_int rfl)))) (pu_slT (PuD.vi (pu_var (pv 2))) so_none (so_some (pu_c pe_int rfl))))) (PuD.vi (PuD.or (OwD.pu (ow_sl (PuD.vi (pu_var (pv 2))) (so_some (pu_c pe_int rfl)) (so_some (pu_c pe_int rfl)))) (pu_slT (PuD.vi (pu_var (pv 2))) (so_some (pu_c pe_int rfl)) (so_some (pu_c pe_int rfl))))) (PuD.vi (OwD.pu (ow_lst ar_nil))))) (tww_and1 (tw_cmp op_eq r2_eqS (nomark _) (pw_call hDr subDraw (hr.mono (by first | decide | omega)) (by rfl) (aw_cons (PuD.w (pu_var (pv 0))) (aw_cons (PuD.w (pu_c pe_int rfl)) aw_nil))) (PuD.w (pu_c pe_int rfl)))))) (ssw_one (sw_lput (i := 6) (j := 1) (PuD.w (pu_ix (vi_var (pv 6)) (PuD.vi (pu_c pe_int rfl)) (fun _ _ => rfl))) (fun h => ps_asg h (pg_sub (pv 6) pe_int set_list)))) (SsD.w ss_nil)) (SsD.w (ss_one (sd_ret (pu_disp (ks := ["names", "values", "named"]) (ds_cons (x := "names") pe_str (pu_var (pv 5)) (ds_cons (x := "values") pe_str (pu_add (vi_var (pv 6)) (PuD.vi (OwD.pu (ow_rep (PuD.vi (OwD.pu (ow_lst (ar_cons (pu_c pe_non rfl) ar_nil)))) (PuD.vi (pu_var (pv 3))))))) (ds_cons (x := "named") pe_str (pu_var (pv 7)) ds_nil))) (by decide +kernel) (by decide) rfl rfl (fun z => nomatch z) (by decide)))))))))))⟩
abbrev sSpare : Stmt := top 50
abbrev nSpare : List Str := ["_law_w", "_law_known", "_law_some_here", "_law_word_here", "_law_letter"]
theorem scSpare : FnScope nSpare ["_law_w"] (defScope sSpare) := ⟨rfl, rfl, rfl, by decide +kernel, rfl, by decide +kernel, by decide +kernel⟩
def FSpare : L2.Tr.Env → Option Out := (seqF (asgF (bin2 addD (mapS (app1 lstA (consD (bin2 dgD (atP 0) (kD (.leaf (.str "names")))) nilD))) (mapS (app1 lstA (consD (bin2 dgD (atP 0) (kD (.leaf (.str "named")))) nilD)))) (setF 1)) (seqF (forF (seqsF (bin2 dgD (atP 0) (kD (.leaf (.str "values"))))) (setF 2) (asgF (bin2 addD (atP 1) (mapS (app1 lstA (consD (orF (atP 2) (mapS (lstDisp nilD))) nilD)))) (setF 1))) (retF (mapS (lcF [3] (seqsF (mapS (lcF [4] (strsF (kD (.leaf (.str "abcdefghijklmnopqrstuv")))) (setF 4) yesF (bin2 addD (kD (.leaf (.str "zz"))) (atP 4))))) (setF 3) (asBF (bin2 (inD true) (atP 3) (atP 1))) (atP 3))))))
def fSpare (ds : List D) : Option D := if ds.length = (["_law_w"] : List Str).length then runF nSpare.length (FSpare ) ds else none
theorem okSpare {f : Addr} {fd : FuncData} (F : Fun K "_law_spare" "_law_spare" sSpare f fd) (B : TxB2 mg) : FnOk P w K mg base CX0 1 f fd ["_law_w"] (spP (fSpare )) :=
  ok_def (N := nSpare) (Φ := FSpare ) F scSpare fun cdv A outer s H E hr => ⟨_, (ss_cons (sd_nm (pu_add (PuD.vi (OwD.pu (ow_cty (CallR.or call_list_of (call_list_dK rfl)) (R1O.or r1_lst r1_lstK) (by rfl) B.z_list (by decide +kernel) (av_cons (PuD.vi (pu_dg (hu_of hr) (PuD.vi (pu_var (pv 0))) (PuD.vi (pu_c pe_str (by decide +kernel))) (fun _ _ => rfl))) av_nil)))) (PuD.vi (OwD.pu (ow_cty (CallR.or call_list_of (call_list_dK rfl)) (R1O.or r1_lst r1_lstK) (by rfl) B.z_list (by decide +kernel) (av_cons (PuD.vi (pu_dg (hu_of hr) (PuD.vi (pu_var (pv 0))) (PuD.vi (pu_c pe_str (by decide +kernel))) (fun _ _ => rfl))) av_nil))))) (fun h => ps_set (i := 1) scSpare.nd rfl (by first | exact Or.inl rfl | exact Or.inr rfl) h)) (ss_cons (sd_for PassesOwn.never rfl (it_seq (pu_dg (hu_of hr) (PuD.vi (pu_var (pv 0))) (PuD.vi (pu_c pe_str (by decide +kernel))) (fun _ _ => rfl))) (tg_name (pg_name (i := 2) scSpare.nd rfl (by first | exact Or.inl rfl | exact Or.inr rfl))) (ss_one (sd_nm (pu_add (PuD.vi (pu_var (pv 1))) (PuD.vi (OwD.pu (ow_cty (CallR.or call_list_of (call_list_dK rfl)) (R1O.or r1_lst r1_lstK) (by rfl) B.z_list (by decide +kernel) (av_cons (PuD.vi (pu_orT (pu_var (pv 2)) (pu_one (OwD.pu (ow_lst ar_nil))))) av_nil))))) (fun h => ps_set (i := 1) scSpare.nd rfl (by first | exact Or.inl rfl | exact Or.inr rfl) h)))) (ss_one (sd_ret (OwD.pu (LcD.ow (lcI [("_law_word_here", 3)] (it_seq (OwD.pu (LcD.ow (lc0 [("_law_letter", 4)] (it_str (pu_c pe_str (by decide +kernel))) (blkOk_by (N := nSpare) (sc := defScope sSpare) (by decide +kernel)) (fun _ _ _ _ _ => (tg_name (pg_name (i := 4) scSpare.nd rfl (Or.inl rfl)))) (fun _ _ _ _ _ => (tw_name (by decide))) (fun _ _ _ _ _ => (pu_add (PuD.vi (pu_c pe_str (by decide +kernel))) (PuD.vi (pu_var (pv 4)))))) rfl scSpare.nd))) (blkOk_by (N := nSpare) (sc := defScope sSpare) (by decide +kernel)) (fun _ _ _ _ _ => (tg_name (pg_name (i := 3) scSpare.nd rfl (Or.inl rfl)))) (fun _ _ _ _ _ => (tw_name (by decide))) (fun _ _ _ _ _ => (te_cmp op_notIn_seq r2_in (by with_unfolding_all rfl) (PuD.vi (pu_var (pv 3))) (PuD.vi (pu_var (pv 1))))) (fun _ _ _ _ _ => (pu_var (pv 3)))) rfl scSpare.nd))))))⟩
abbrev sLetters : Stmt := top 49
abbrev nLetters : List Str := ["_law_w", "_law_rows", "_law_spare_here", "_law_values", "_law_longer", "_law_row", "_law_fresh", "_law_some_here", "_law_word_here"]
theorem scLetters : FnScope nLetters ["_law_w"] (defScope sLetters) := ⟨rfl, rfl, rfl, by decide +kernel, rfl, by decide +kernel, by decide +kernel⟩
def FLetters : L2.Tr.Env → Option Out := (seqF (par_pp 1 2 (mapS (lstDisp (consD (tupDisp nilD) nilD))) (app1 fSpare (consD (atP 0) nilD))) (seqF (forF (seqsF (bin2 dgD (atP 0) (kD (.leaf (.str "values"))))) (setF 3) (seqF (asgO 4 (lstDisp nilD)) (seqF (forF (seqsF (atP 1)) (setF 5) (seqF (asgF (ifF (asBF (bin2 (inD false) (bin2 ixD (atP 2) (kD (.leaf (.int 0)))) (atP 5))) (orE (mapS (slF slO (atP 2) (fun _ => some none) (partF (kD (.leaf (.int 2)))))) (slF slT (atP 2) (fun _ => some none) (partF (kD (.leaf (.int 2)))))) (orE (mapS (slF slO (atP 2) (fun _ => some none) (partF (kD (.leaf (.int 1)))))) (slF slT (atP 2) (fun _ => some none) (partF (kD (.leaf (.int 1))))))) (setF 6)) (seqF (asgF (ifF (asBF (bin2 (isN true) (atP 3) (kD (.leaf .non)))) (mapS (app1 lstA (consD (atP 3) nilD))) (bin2 addD (bin2 dgD (atP 0) (kD (.leaf (.str "named")))) (atP 6))) (setF 7)) (growF 4 (extArg (mapS (lcF [8] (seqsF (atP 7)) (setF 8) yesF (bin2 addD (atP 5) (tupDisp (consD (atP 8) nilD)))))) fun xs ds => xs ++ ds)))) (moveF 1 4)))) (retF (atP 1))))
def fLetters (ds : List D) : Option D := if ds.length = (["_law_w"] : List Str).length then runF nLetters.length (FLetters ) ds else none
theorem okLetters {f : Addr} {fd : FuncData} (F : Fun K "_law_letters" "_law_letters" sLetters f fd) (B : TxB2 mg) (hSp : Fn P w K mg base "_law_spare" 1 1 fSpare) : FnOk P w K mg base CX0 2 f fd ["_law_w"] (spP (fLetters )) :=
  ok_def (N := nLetters) (Φ := FLetters ) F scLetters fun cdv A outer s H E hr => ⟨_, (ss_cons (sd_par_pp (OwD.pu (ow_lst (ar_cons (pu_tup ar_nil) ar_nil))) (pu_call hSp (hr.mono (by first | decide | omega)) (by rfl) (ar_cons (pu_var (pv 0)) ar_nil)) (by decide) (fun h => ps_par (i := 1) (j := 2) rfl scLetters.nd rfl rfl (by decide) rfl rfl h (by rfl))) (ss_cons (sd_for PassesOwn.never rfl (it_seq (pu_dg (hu_of hr) (PuD.vi (pu_var (pv 0))) (PuD.vi (pu_c pe_str (by decide +kernel))) (fun _ _ => rfl))) (tg_name (pg_name (i := 3) scLetters.nd rfl (by first | exact Or.inl rfl | exact Or.inr rfl))) (ss_cons (sd_nmO (ow_lst ar_nil) (fun h => ps_set (i := 4) scLetters.nd rfl (by first | exact Or.inl rfl | exact Or.inr rfl) h)) (ss_cons (sd_for PassesOwn.never rfl (it_seq (pu_var (pv 1))) (tg_name (pg_name (i := 5) scLetters.nd rfl (by first | exact Or.inl rfl | exact Or.inr rfl))) (ss_cons (sd_nm (pu_if (te_cmp op_in_seq r2_in (by with_unfolding_all rfl) (PuD.vi (pu_ix (PuD.vi (pu_var (pv 2))) (PuD.vi (pu_c pe_int rfl)) (fun _ _ => rfl))) (PuD.vi (pu_var (pv 5)))) (PuD.or (OwD.pu (ow_sl (PuD.vi (pu_var (pv 2))) so_none (so_some (pu_c pe_int rfl)))) (pu_slT (PuD.vi (pu_var (pv 2))) so_none (so_some (pu_c pe_int rfl)))) (PuD.or (OwD.pu (ow_sl (PuD.vi (pu_var (pv 2))) so_none (so_some (pu_c pe_int rfl)))) (pu_slT (PuD.vi (pu_var (pv 2))) so_none (so_some (pu_c pe_int rfl))))) (fun h => ps_set (i := 6) scLetters.nd rfl (by first | exact Or.inl rfl | exact Or.inr rfl) h)) (ss_cons (sd_nm (pu_if (te_cmp op_notN r2_notN (nomark _) (PuD.vi (pu_var (pv 3))) (PuD.vi (pu_c pe_non rfl))) (OwD.pu (ow_cty (CallR.or call_list_of (call_list_dK rfl)) (R1O.or r1_lst r1_lstK) (by rfl) B.z_list (by decide +kernel) (av_cons (PuD.vi (pu_var (pv 3))) av_nil))) (pu_add (PuD.vi (pu_dg (hu_of hr) (PuD.vi (pu_var (pv 0))) (PuD.vi (pu_c pe_str (by decide +kernel))) (fun _ _ => rfl))) (PuD.vi (pu_var (pv 6))))) (fun h => ps_set (i := 7) scLetters.nd rfl (by first | exact Or.inl rfl | exact Or.inr rfl) h)) (ss_one (sd_extK (i := 4) (OwD.pu (LcD.ow (lc0 [("_law_word_here", 8)] (it_seq (pu_var (pv 7))) (blkOk_by (N := nLetters) (sc := defScope sLetters) (by decide +kernel)) (fun _ _ _ _ _ => (tg_name (pg_name (i := 8) scLetters.nd rfl (Or.inl rfl)))) (fun _ _ _ _ _ => (tw_name (by decide))) (fun _ _ _ _ _ => (pu_add (PuD.vi (pu_var (pv 5))) (PuD.vi (pu_tup (ar_cons (pu_var (pv 8)) ar_nil)))))) rfl scLetters.nd)) (fun h => ps_expr (pe_bm PySem.F.plainAttrs_list PySem.F.slot_list_extend PySem.F.type_list_extend mt_extend (pv 4) (pa_cons h pa_nil)))))))) (ss_one (sd_move (i := 1) (pv 4) (fun h => ps_set (i := 1) scLetters.nd rfl (by first | exact Or.inl rfl | exact Or.inr rfl) h)))))) (ss_one (sd_ret (pu_var (pv 1))))))⟩
abbrev sColsOf : Stmt := top 44
abbrev nColsOf : List Str := ["_law_w", "_law_told", "_law_name", "_law_values"]
theorem scColsOf : FnScope nColsOf ["_law_w"] (defScope sColsOf) := ⟨rfl, rfl, rfl, by decide +kernel, rfl, by decide +kernel, by decide +kernel⟩
def FColsOf (C : Addr) (gM : List D → Option (List Str × List D)) : L2.Tr.Env → Option Out := (seqF (asgF (mapS (lcF [2, 3] (zipF (bin2 dgD (atP 0) (kD (.leaf (.str "names")))) (bin2 dgD (atP 0) (kD (.leaf (.str "values"))))) (tupT 2 (consT (setF 2) (consT (setF 3) nilT))) (asBF (bin2 (isN true) (atP 3) (kD (.leaf .non)))) (tupDisp (consD (atP 2) (consD (atP 3) nilD))))) (setF 1)) (retF (app1 (mkD C gM) (consD (atP 1) (consD (mapS (lcF [2, 3] (zipF (bin2 dgD (atP 0) (kD (.leaf (.str "names")))) (bin2 dgD (atP 0) (kD (.leaf (.str "values"))))) (tupT 2 (consT (setF 2) (consT (setF 3) nilT))) (asBF (bin2 (isN false) (atP 3) (kD (.leaf .non)))) (atP 2))) nilD)))))
def fColsOf (C : Addr) (gM : List D → Option (List Str × List D)) (ds : List D) : Option D := if ds.length = (["_law_w"] : List Str).length then runF nColsOf.length (FColsOf C gM ) ds else none
theorem okColsOf {f : Addr} {fd : FuncData} (C : Addr) (gM : List D → Option (List Str × List D)) (F : Fun K "_law_columns" "_law_columns" sColsOf f fd) (B : TxB2 mg) (mk : Mkr P w K mg base "Columns" C 4 gM) : FnOk P w K mg base CX0 6 f fd ["_law_w"] (spP (fColsOf C gM )) :=
  ok_def (N := nColsOf) (Φ := FColsOf C gM ) F scColsOf fun cdv A outer s H E hr => ⟨_, (ss_cons (sd_set (OwD.pu (LcD.ow (lcI [("_law_name", 2), ("_law_values", 3)] (it_zip (pu_dg (hu_of hr) (PuD.vi (pu_var (pv 0))) (PuD.vi (pu_c pe_str (by decide +kernel))) (fun _ _ => rfl)) (pu_dg (hu_of hr) (PuD.vi (pu_var (pv 0))) (PuD.vi (pu_c pe_str (by decide +kernel))) (fun _ _ => rfl)) (by rfl) B.z_zip) (blkOk_by (N := nColsOf) (sc := defScope sColsOf) (by decide +kernel)) (fun _ _ _ _ _ => (tg_tup rfl (tgs_cons (tg_name (pg_name (i := 2) scColsOf.nd rfl (Or.inl rfl))) (tgs_cons (tg_name (pg_name (i := 3) scColsOf.nd rfl (Or.inl rfl))) tgs_nil)))) (fun _ _ _ _ _ => (tw_tup (tws_cons mono_nm (tw_name (by decide)) (tws_cons mono_nm (tw_name (by decide)) tws_nil)))) (fun _ _ _ _ _ => (te_cmp op_notN r2_notN (nomark _) (PuD.vi (pu_var (pv 3))) (PuD.vi (pu_c pe_non rfl)))) (fun _ _ _ _ _ => (pu_tup (ar_cons (pu_var (pv 2)) (ar_cons (pu_var (pv 3)) ar_nil))))) rfl scColsOf.nd)) (LcD.set (i := 1) (lcI [("_law_name", 2), ("_law_values", 3)] (it_zip (pu_dg (hu_of hr) (PuD.vi (pu_var (pv 0))) (PuD.vi (pu_c pe_str (by decide +kernel))) (fun _ _ => rfl)) (pu_dg (hu_of hr) (PuD.vi (pu_var (pv 0))) (PuD.vi (pu_c pe_str (by decide +kernel))) (fun _ _ => rfl)) (by rfl) B.z_zip) (blkOk_by (N := nColsOf) (sc := defScope sColsOf) (by decide +kernel)) (fun _ _ _ _ _ => (tg_tup rfl (tgs_cons (tg_name (pg_name (i := 2) scColsOf.nd rfl (Or.inl rfl))) (tgs_cons (tg_name (pg_name (i := 3) scColsOf.nd rfl (Or.inl rfl))) tgs_nil)))) (fun _ _ _ _ _ => (tw_tup (tws_cons mono_nm (tw_name (by decide)) (tws_cons mono_nm (tw_name (by decide)) tws_nil)))) (fun _ _ _ _ _ => (te_cmp op_notN r2_notN (nomark _) (PuD.vi (pu_var (pv 3))) (PuD.vi (pu_c pe_non rfl)))) (fun _ _ _ _ _ => (pu_tup (ar_cons (pu_var (pv 2)) (ar_cons (pu_var (pv 3)) ar_nil))))) rfl scColsOf.nd rfl rfl (sw_true rfl rfl rfl (by decide +kernel)))) (ss_one (sd_ret (pu_make mk (hr.mono (by first | decide | omega)) (by rfl) (ar_cons (pu_var (pv 1)) (ar_cons (OwD.pu (LcD.ow (lcI [("_law_name", 2), ("_law_values", 3)] (it_zip (pu_dg (hu_of hr) (PuD.vi (pu_var (pv 0))) (PuD.vi (pu_c pe_str (by decide +kernel))) (fun _ _ => rfl)) (pu_dg (hu_of hr) (PuD.vi (pu_var (pv 0))) (PuD.vi (pu_c pe_str (by decide +kernel))) (fun _ _ => rfl)) (by rfl) B.z_zip) (blkOk_by (N := nColsOf) (sc := defScope sColsOf) (by decide +kernel)) (fun _ _ _ _ _ => (tg_tup rfl (tgs_cons (tg_name (pg_name (i := 2) scColsOf.nd rfl (Or.inl rfl))) (tgs_cons (tg_name (pg_name (i := 3) scColsOf.nd rfl (Or.inl rfl))) tgs_nil)))) (fun _ _ _ _ _ => (tw_tup (tws_cons mono_nm (tw_name (by decide)) (tws_cons mono_nm (tw_name (by decide)) tws_nil)))) (fun _ _ _ _ _ => (te_cmp op_isN r2_isN (nomark _) (PuD.vi (pu_var (pv 3))) (PuD.vi (pu_c pe_non rfl)))) (fun _ _ _ _ _ => (pu_var (pv 2)))) rfl scColsOf.nd)) ar_nil))))))⟩
abbrev sSame : Stmt := top 54
abbrev nSame : List Str := ["_law_found", "_law_due", "_law_one", "_law_other"]
theorem scSame : FnScope nSame ["_law_found", "_law_due"] (defScope sSame) := ⟨rfl, rfl, rfl, by decide +kernel, rfl, by decide +kernel, by decide +kernel⟩
def FSame (g : List D → Option D) : L2.Tr.Env → Option Out := (seqF (ifS (truF (isF isSeq (atP 1))) (seqF (ifS (orB (asBF (bin2 (scD true) (isF isLst (atP 0)) (isF isLst (atP 1)))) (asBF (bin2 (scD true) (isF isTup (atP 0)) (isF isTup (atP 1))))) (retF (kD (.leaf (.bl false)))) skipF) (retF (andF (bin2 (scD false) (app1 lenA (consD (atP 0) nilD)) (app1 lenA (consD (atP 1) nilD))) (app1 allD (consD (mapS (lcF [2, 3] (zipF (atP 0) (atP 1)) (tupT 2 (consT (setF 2) (consT (setF 3) nilT))) yesF (app1 g (consD (atP 2) (consD (atP 3) nilD))))) nilD))))) skipF) (seqF (ifS (truF (isF isInt (atP 1))) (retF (andF (isF isInt (atP 0)) (andF (bin2 (scD false) (isF isBool (atP 0)) (isF isBool (atP 1))) (bin2 (scD false) (atP 0) (atP 1))))) skipF) (retF (andF (bin2 (scD false) (atP 0) (atP 1)) (bin2 isB (isF isIntSeq (atP 0)) (kD (.leaf (.bl false))))))))
def fSame (g : List D → Option D) (ds : List D) : Option D := if ds.length = (["_law_found", "_law_due"] : List Str).length then runF nSame.length (FSame g ) ds else none
theorem okSame {f : Addr} {fd : FuncData} (g : List D → Option D) (F : Fun K "_law_same" "_law_same" sSame f fd) (B : TxB2 mg) {k : Nat} (hS : Fn P w K mg base "_law_same" k 2 g) : FnOk P w K mg base CX0 (k + 1) f fd ["_law_found", "_law_due"] (spP (fSame g )) :=
  ok_def (N := nSame) (Φ := FSame g ) F scSame fun cdv A outer s H E hr => ⟨_, (ss_cons (sd_if (te_tru (PuD.vi (pu_isiT isTs_seq (by rfl) B.z_isinstance (by decide +kernel) (PuD.vi (pu_var (pv 1))) (TyArgs.cons (pe_bltn (v := .ty "list") (by rfl) B.z_list (by decide +kernel) rfl) (TyArgs.cons (pe_bltn (v := .ty "tuple") (by rfl) B.z_tuple (by decide +kernel) rfl) TyArgs.nil (by rfl)) (by rfl)) (by decide))) (fun _ => rfl)) (ss_cons (sd_if (TwD.te (tw_or (te_cmp op_ne r2_neS (nomark _) (PuD.vi (pu_isi isT_lst (by rfl) B.z_isinstance (by decide +kernel) (PuD.vi (pu_var (pv 0))) (pe_bltn (v := .ty "list") (by rfl) B.z_list (by decide +kernel) rfl))) (PuD.vi (pu_isi isT_lst (by rfl) B.z_isinstance (by decide +kernel) (PuD.vi (pu_var (pv 1))) (pe_bltn (v := .ty "list") (by rfl) B.z_list (by decide +kernel) rfl)))) (tw_or1 (te_cmp op_ne r2_neS (nomark _) (PuD.vi (pu_isi isT_tup (by rfl) B.z_isinstance (by decide +kernel) (PuD.vi (pu_var (pv 0))) (pe_bltn (v := .ty "tuple") (by rfl) B.z_tuple (by decide +kernel) rfl))) (PuD.vi (pu_isi isT_tup (by rfl) B.z_isinstance (by decide +kernel) (PuD.vi (pu_var (pv 1))) (pe_bltn (v := .ty "tuple") (by rfl) B.z_tuple (by decide +kernel) rfl))))))) (ss_one (sd_ret (pu_c pe_bl rfl))) ss_nil) (ss_one (sd_ret (pu_andT (pu_cmp op_eq r2_eqS (nomark _) (PuD.vi (pu_cb (CallR.or call_len call_lenD) (R1D.or r1_len r1_lenK) (by rfl) B.z_len (by decide +kernel) (av_cons (PuD.vi (pu_var (pv 0))) av_nil))) (PuD.vi (pu_cb (CallR.or call_len call_lenD) (R1D.or r1_len r1_lenK) (by rfl) B.z_len (by decide +kernel) (av_cons (PuD.vi (pu_var (pv 1))) av_nil)))) (pu_one (pu_cb (cr_all rfl) r1_all (by rfl) B.z_all (by decide +kernel) (av_cons (PuD.vi (OwD.pu (LcD.ow (lc0 [("_law_one", 2), ("_law_other", 3)] (it_zip (pu_var (pv 0)) (pu_var (pv 1)) (by rfl) B.z_zip) (blkOk_by (N := nSame) (sc := defScope sSame) (by decide +kernel)) (fun _ _ _ _ _ => (tg_tup rfl (tgs_cons (tg_name (pg_name (i := 2) scSame.nd rfl (Or.inl rfl))) (tgs_cons (tg_name (pg_name (i := 3) scSame.nd rfl (Or.inl rfl))) tgs_nil)))) (fun _ _ _ _ _ => (tw_tup (tws_cons mono_nm (tw_name (by decide)) (tws_cons mono_nm (tw_name (by decide)) tws_nil)))) (fun _ _ _ _ _ => (pu_call hS (hr.mono (by first | decide | omega)) (by rfl) (ar_cons (pu_var (pv 2)) (ar_cons (pu_var (pv 3)) ar_nil))))) rfl scSame.nd))) av_nil))))))) ss_nil) (ss_cons (sd_if (te_tru (PuD.vi (pu_isi isT_int (by rfl) B.z_isinstance (by decide +kernel) (PuD.vi (pu_var (pv 1))) (pe_bltn (v := .ty "int") (by rfl) B.z_int (by decide +kernel) rfl))) (fun _ => rfl)) (ss_one (sd_ret (pu_andT (pu_isi isT_int (by rfl) B.z_isinstance (by decide +kernel) (PuD.vi (pu_var (pv 0))) (pe_bltn (v := .ty "int") (by rfl) B.z_int (by decide +kernel) rfl)) (pu_andT (pu_cmp op_eq r2_eqS (nomark _) (PuD.vi (pu_isi isT_bool (by rfl) B.z_isinstance (by decide +kernel) (PuD.vi (pu_var (pv 0))) (pe_bltn (v := .ty "bool") (by rfl) B.z_bool (by decide +kernel) rfl))) (PuD.vi (pu_isi isT_bool (by rfl) B.z_isinstance (by decide +kernel) (PuD.vi (pu_var (pv 1))) (pe_bltn (v := .ty "bool") (by rfl) B.z_bool (by decide +kernel) rfl)))) (pu_one (pu_cmp op_eq r2_eqS (nomark _) (PuD.vi (pu_var (pv 0))) (PuD.vi (pu_var (pv 1))))))))) ss_nil) (ss_one (sd_ret (pu_andT (pu_cmp op_eq r2_eqS (nomark _) (PuD.vi (pu_var (pv 0))) (PuD.vi (pu_var (pv 1)))) (pu_one (pu_cmp op_isBl r2_isB (nomark _) (PuD.vi (pu_isiT isTs_intSeq (by rfl) B.z_isinstance (by decide +kernel) (PuD.vi (pu_var (pv 0))) (TyArgs.cons (pe_bltn (v := .ty "int") (by rfl) B.z_int (by decide +kernel) rfl) (TyArgs.cons (pe_bltn (v := .ty "list") (by rfl) B.z_list (by decide +kernel) rfl) (TyArgs.cons (pe_bltn (v := .ty "tuple") (by rfl) B.z_tuple (by decide +kernel) rfl) TyArgs.nil (by rfl)) (by rfl)) (by rfl)) (by decide))) (PuD.vi (pu_c pe_bl rfl)))))))))⟩
abbrev sLSome : Stmt := top 45
abbrev nLSome : List Str := ["_law_stream", "_law_things", "_law_found", "_law_thing"]
theorem scLSome : FnScope nLSome ["_law_stream", "_law_things"] (defScope sLSome) := ⟨rfl, rfl, rfl, by decide +kernel, rfl, by decide +kernel, by decide +kernel⟩
def FLSome (a : Addr) : WF Nat Ou := (seqW (setW 2 (svP (lcW [3] (lf (seqsF (atP 1))) (setF 3) (asW (b2W (scD false) (callW (drawW a) (consW (lf (atP 0)) (consW (lf (kD (.leaf (.int 2)))) nilW))) (lf (kD (.leaf (.int 0)))))) (lf (atP 3))))) (retW (ifW (lf (asBF (bin2 (eqP true) (atP 2) (mapS (lstDisp nilD))))) (lf (atP 2)) (lstW (consW (callW (fPickW a) (consW (lf (atP 0)) (consW (lf (atP 1)) nilW))) nilW)))))
def fLSome (a : Addr) : List D → Nat → (D → Nat → Prop) → Prop := fun ds s R => ds.length = (["_law_stream", "_law_things"] : List Str).length ∧ runW nLSome.length (FLSome a ) ds s R
theorem okLSome {f : Addr} {fd : FuncData} (F : Fun K "_law_some" "_law_some" sLSome f fd) (B : TxB2 mg) (hDr : FnE P w K mg base "_law_draw" 1 spDraw) (hPk : FnE P w K mg base "_law_pick" 2 (spS fPickW)) : FnOk P w K mg base CX0 3 f fd ["_law_stream", "_law_things"] (spS fun a => fLSome a ) :=
  ok_defW (N := nLSome) (Ωs := fun j : Addr × Addr => St j.1 j.2) (Φs := fun j => FLSome j.1 ) F scLSome fun j cdv A outer s H E hr => ⟨_, (ssw_cons (LcW.set (i := 2) (lcwI [("_law_thing", 3)] (ItD.w (it_seq (pu_var (pv 1)))) (blkOk_by (N := nLSome) (sc := defScope sLSome) (by decide +kernel)) (fun _ _ _ _ _ => (tg_name (pg_name (i := 3) scLSome.nd rfl (Or.inl rfl)))) (fun _ _ _ _ _ => (tw_name (by decide))) (fun _ _ _ _ _ => (tw_cmp op_eq r2_eqS (nomark _) (pw_call hDr subDraw (hr.mono (by first | decide | omega)) (by rfl) (aw_cons (PuD.w (pu_var (pv 0))) (aw_cons (PuD.w (pu_c pe_int rfl)) aw_nil))) (PuD.w (pu_c pe_int rfl)))) (fun _ _ _ _ _ => (PuD.w (pu_var (pv 3))))) rfl scLSome.nd rfl rfl (sw_true rfl rfl rfl (by decide +kernel)) (fun o => PuW.sv (OwW.pu o))) (ssw_one (sw_ret (pw_if (TeD.w (te_cmp (op_neD (hr.units)) r2_neD (nomark _) (PuD.vi (pu_var (pv 2))) (PuD.vi (OwD.pu (ow_lst ar_nil))))) (PuD.w (pu_var (pv 2))) (OwW.pu (oww_lst (aw_cons (pw_call hPk subS (hr.mono (by first | decide | omega)) (by rfl) (aw_cons (PuD.w (pu_var (pv 0))) (aw_cons (PuD.w (pu_var (pv 1))) aw_nil))) aw_nil)))))))⟩
abbrev sSLook : Stmt := top 46
abbrev nSLook : List Str := ["_law_stream", "_law_w", "_law_far", "_law_way", "_law_at", "_law_kin", "_law_name", "_law_some_here", "_law_others", "_law_drawn"]
theorem scSLook : FnScope nSLook ["_law_stream", "_law_w", "_law_far"] (defScope sSLook) := ⟨rfl, rfl, rfl, by decide +kernel, rfl, by decide +kernel, by decide +kernel⟩
def FSLook (a : Addr) : WF Nat Ou := (seqW (asgW (tupW (consW (callW (drawW a) (consW (lf (atP 0)) (consW (lf (kD (.leaf (.int 9)))) nilW))) (consW (callW (drawW a) (consW (lf (atP 0)) (consW (lf (app1 lenA (consD (bin2 dgD (atP 1) (kD (.leaf (.str "names")))) nilD))) nilW))) nilW))) (tupT 2 (consT (setF 3) (consT (setF 4) nilT)))) (seqW (lfS (asgF (mapS (lcF [6, 7] (zipF (bin2 dgD (atP 1) (kD (.leaf (.str "names")))) (bin2 dgD (atP 1) (kD (.leaf (.str "values"))))) (tupT 2 (consT (setF 6) (consT (setF 7) nilT))) (asBF (bin2 (eqP false) (atP 7) (bin2 ixD (bin2 dgD (atP 1) (kD (.leaf (.str "values")))) (atP 4)))) (atP 6))) (setF 5))) (seqW (lfS (asgF (mapS (lcF [6] (seqsF (atP 5)) (setF 6) (asBF (bin2 (scD true) (atP 6) (bin2 ixD (bin2 dgD (atP 1) (kD (.leaf (.str "names")))) (atP 4)))) (atP 6))) (setF 8))) (seqW (lfS (ifS (asBF (bin2 (scD false) (atP 3) (kD (.leaf (.int 0))))) (retF (tupDisp (consD (kD (.leaf (.str "every"))) nilD))) skipF)) (seqW (lfS (ifS (andB (asBF (bin2 (scD false) (atP 3) (kD (.leaf (.int 1))))) (asBF (bin2 (eqP true) (atP 8) (mapS (lstDisp nilD))))) (retF (tupDisp (consD (kD (.leaf (.str "same"))) (consD (bin2 ixD (bin2 dgD (atP 1) (kD (.leaf (.str "names")))) (atP 4)) (consD (bin2 ixD (atP 8) (kD (.leaf (.int 0)))) nilD))))) skipF)) (seqW (ifSW (lf (andB (asBF (bin2 (scD false) (atP 3) (kD (.leaf (.int 2))))) (asBF (bin2 (intI fun i j => .bl (decide (j < i))) (atP 2) (kD (.leaf (.int 0))))))) (retW (tupW (consW (lf (kD (.leaf (.str "numbered")))) (consW (ap1W tupD (consW (callW (fLSome a) (consW (lf (atP 0)) (consW (lf (mapS (bin2 rngS (kD (.leaf (.int 1))) (bin2 addD (atP 2) (kD (.leaf (.int 1))))))) nilW))) nilW)) nilW)))) (lfS skipF)) (seqW (lfS (asgF (ifF (asBF (bin2 (isN false) (bin2 ixD (bin2 dgD (atP 1) (kD (.leaf (.str "values")))) (atP 4)) (kD (.leaf .non)))) (bin2 dgD (atP 1) (kD (.leaf (.str "named")))) (mapS (app1 lstA (consD (bin2 ixD (bin2 dgD (atP 1) (kD (.leaf (.str "values")))) (atP 4)) nilD)))) (setF 9))) (retW (tupW (consW (lf (kD (.leaf (.str "has")))) (consW (lf (bin2 ixD (bin2 dgD (atP 1) (kD (.leaf (.str "names")))) (atP 4))) (consW (ap1W tupD (consW (callW (fLSome a) (consW (lf (atP 0)) (consW (lf (atP 9)) nilW))) nilW)) nilW))))))))))))
def fSLook (a : Addr) : List D → Nat → (D → Nat → Prop) → Prop := fun ds s R => ds.length = (["_law_stream", "_law_w", "_law_far"] : List Str).length ∧ runW nSLook.length (FSLook a ) ds s R
theorem okSLook {f : Addr} {fd : FuncData} (F : Fun K "_law_simple_look" "_law_simple_look" sSLook f fd) (B : TxB2 mg) (hDr : FnE P w K mg base "_law_draw" 1 spDraw) (hSm : FnE P w K mg base "_law_some" 3 (spS fLSome)) : FnOk P w K mg base CX0 4 f fd ["_law_stream", "_law_w", "_law_far"] (spS fun a => fSLook a ) :=
  ok_defW (N := nSLook) (Ωs := fun j : Addr × Addr => St j.1 j.2) (Φs := fun j => FSLook j.1 ) F scSLook fun j cdv A outer s H E hr => ⟨_, (ssw_cons (sw_asg (pw_tup (aw_cons (pw_call hDr subDraw (hr.mono (by first | decide | omega)) (by rfl) (aw_cons (PuD.w (pu_var (pv 0))) (aw_cons (PuD.w (pu_c pe_int rfl)) aw_nil))) (aw_cons (pw_call hDr subDraw (hr.mono (by first | decide | omega)) (by rfl) (aw_cons (PuD.w (pu_var (pv 0))) (aw_cons (PuD.w (pu_cb (CallR.or call_len call_lenD) (R1D.or r1_len r1_lenK) (by rfl) B.z_len (by decide +kernel) (av_cons (PuD.vi (pu_dg (hu_of hr) (PuD.vi (pu_var (pv 1))) (PuD.vi (pu_c pe_str (by decide +kernel))) (fun _ _ => rfl))) av_nil))) aw_nil))) aw_nil))) (tg_tup rfl (tgs_cons (tg_name (pg_name (i := 3) scSLook.nd rfl (by first | exact Or.inl rfl | exact Or.inr rfl))) (tgs_cons (tg_name (pg_name (i := 4) scSLook.nd rfl (by first | exact Or.inl rfl | exact Or.inr rfl))) tgs_nil)))) (ssw_cons (StD.w (sd_set (OwD.pu (LcD.ow (lcI [("_law_name", 6), ("_law_some_here", 7)] (it_zip (pu_dg (hu_of hr) (PuD.vi (pu_var (pv 1))) (PuD.vi (pu_c pe_str (by decide +kernel))) (fun _ _ => rfl)) (pu_dg (hu_of hr) (PuD.vi (pu_var (pv 1))) (PuD.vi (pu_c pe_str (by decide +kernel))) (fun _ _ => rfl)) (by rfl) B.z_zip) (blkOk_by (N := nSLook) (sc := defScope sSLook) (by decide +kernel)) (fun _ _ _ _ _ => (tg_tup rfl (tgs_cons (tg_name (pg_name (i := 6) scSLook.nd rfl (Or.inl rfl))) (tgs_cons (tg_name (pg_name (i := 7) scSLook.nd rfl (Or.inl rfl))) tgs_nil)))) (fun _ _ _ _ _ => (tw_tup (tws_cons mono_nm (tw_name (by decide)) (tws_cons mono_nm (tw_name (by decide)) tws_nil)))) (fun _ _ _ _ _ => (te_cmp (op_eqD (hr.units)) r2_eqD (nomark _) (PuD.vi (pu_var (pv 7))) (PuD.vi (pu_ix (PuD.vi (pu_dg (hu_of hr) (PuD.vi (pu_var (pv 1))) (PuD.vi (pu_c pe_str (by decide +kernel))) (fun _ _ => rfl))) (PuD.vi (pu_var (pv 4))) (fun _ _ => rfl))))) (fun _ _ _ _ _ => (pu_var (pv 6)))) rfl scSLook.nd)) (LcD.set (i := 5) (lcI [("_law_name", 6), ("_law_some_here", 7)] (it_zip (pu_dg (hu_of hr) (PuD.vi (pu_var (pv 1))) (PuD.vi (pu_c pe_str (by decide +kernel))) (fun _ _ => rfl)) (pu_dg (hu_of hr) (PuD.vi (pu_var (pv 1))) (PuD.vi (pu_c pe_str (by decide +kernel))) (fun _ _ => rfl)) (by rfl) B.z_zip) (blkOk_by (N := nSLook) (sc := defScope sSLook) (by decide +kernel)) (fun _ _ _ _ _ => (tg_tup rfl (tgs_cons (tg_name (pg_name (i := 6) scSLook.nd rfl (Or.inl rfl))) (tgs_cons (tg_name (pg_name (i := 7) scSLook.nd rfl (Or.inl rfl))) tgs_nil)))) (fun _ _ _ _ _ => (tw_tup (tws_cons mono_nm (tw_name (by decide)) (tws_cons mono_nm (tw_name (by decide)) tws_nil)))) (fun _ _ _ _ _ => (te_cmp (op_eqD (hr.units)) r2_eqD (nomark _) (PuD.vi (pu_var (pv 7))) (PuD.vi (pu_ix (PuD.vi (pu_dg (hu_of hr) (PuD.vi (pu_var (pv 1))) (PuD.vi (pu_c pe_str (by decide +kernel))) (fun _ _ => rfl))) (PuD.vi (pu_var (pv 4))) (fun _ _ => rfl))))) (fun _ _ _ _ _ => (pu_var (pv 6)))) rfl scSLook.nd rfl rfl (sw_true rfl rfl rfl (by decide +kernel))))) (ssw_cons (StD.w (sd_set (OwD.pu (LcD.ow (lcI [("_law_name", 6)] (it_seq (pu_var (pv 5))) (blkOk_by (N := nSLook) (sc := defScope sSLook) (by decide +kernel)) (fun _ _ _ _ _ => (tg_name (pg_name (i := 6) scSLook.nd rfl (Or.inl rfl)))) (fun _ _ _ _ _ => (tw_name (by decide))) (fun _ _ _ _ _ => (te_cmp op_ne r2_neS (nomark _) (PuD.vi (pu_var (pv 6))) (PuD.vi (pu_ix (PuD.vi (pu_dg (hu_of hr) (PuD.vi (pu_var (pv 1))) (PuD.vi (pu_c pe_str (by decide +kernel))) (fun _ _ => rfl))) (PuD.vi (pu_var (pv 4))) (fun _ _ => rfl))))) (fun _ _ _ _ _ => (pu_var (pv 6)))) rfl scSLook.nd)) (LcD.set (i := 8) (lcI [("_law_name", 6)] (it_seq (pu_var (pv 5))) (blkOk_by (N := nSLook) (sc := defScope sSLook) (by decide +kernel)) (fun _ _ _ _ _ => (tg_name (pg_name (i := 6) scSLook.nd rfl (Or.inl rfl)))) (fun _ _ _ _ _ => (tw_name (by decide))) (fun _ _ _ _ _ => (te_cmp op_ne r2_neS (nomark _) (PuD.vi (pu_var (pv 6))) (PuD.vi (pu_ix (PuD.vi (pu_dg (hu_of hr) (PuD.vi (pu_var (pv 1))) (PuD.vi (pu_c pe_str (by decide +kernel))) (fun _ _ => rfl))) (PuD.vi (pu_var (pv 4))) (fun _ _ => rfl))))) (fun _ _ _ _ _ => (pu_var (pv 6)))) rfl scSLook.nd rfl rfl (sw_true rfl rfl rfl (by decide +kernel))))) (ssw_cons (StD.w (sd_if (te_cmp op_eq r2_eqS (nomark _) (PuD.vi (pu_var (pv 3))) (PuD.vi (pu_c pe_int rfl))) (ss_one (sd_ret (pu_tup (ar_cons (pu_c pe_str (by decide +kernel)) ar_nil)))) ss_nil)) (ssw_cons (StD.w (sd_if (TwD.te (tw_and (te_cmp op_eq r2_eqS (nomark _) (PuD.vi (pu_var (pv 3))) (PuD.vi (pu_c pe_int rfl))) (tw_and1 (te_cmp (op_neD (hr.units)) r2_neD (nomark _) (PuD.vi (pu_var (pv 8))) (PuD.vi (OwD.pu (ow_lst ar_nil))))))) (ss_one (sd_ret (pu_tup (ar_cons (pu_c pe_str (by decide +kernel)) (ar_cons (pu_ix (PuD.vi (pu_dg (hu_of hr) (PuD.vi (pu_var (pv 1))) (PuD.vi (pu_c pe_str (by decide +kernel))) (fun _ _ => rfl))) (PuD.vi (pu_var (pv 4))) (fun _ _ => rfl)) (ar_cons (pu_ix (PuD.vi (pu_var (pv 8))) (PuD.vi (pu_c pe_int rfl)) (fun _ _ => rfl)) ar_nil)))))) ss_nil)) (ssw_cons (sw_if (TeD.w (TwD.te (tw_and (te_cmp op_eq r2_eqS (nomark _) (PuD.vi (pu_var (pv 3))) (PuD.vi (pu_c pe_int rfl))) (tw_and1 (te_cmp op_gt (r2_I0 fun _ _ => rfl) (nomark _) (PuD.vi (pu_var (pv 2))) (PuD.vi (pu_c pe_int rfl))))))) (ssw_one (sw_ret (pw_tup (aw_cons (PuD.w (pu_c pe_str (by decide +kernel))) (aw_cons (pw_cty call_tuple_of r1_tup (by rfl) B.z_tuple (by decide +kernel) (aw_cons (pw_call hSm subS (hr.mono (by first | decide | omega)) (by rfl) (aw_cons (PuD.w (pu_var (pv 0))) (aw_cons (PuD.w (OwD.pu (ow_listRg rfl (by rfl) B.z_list (by rfl) B.z_range (pu_c pe_int rfl) (pu_add (PuD.vi (pu_var (pv 2))) (PuD.vi (pu_c pe_int rfl)))))) aw_nil))) aw_nil)) aw_nil))))) (SsD.w ss_nil)) (ssw_cons (StD.w (sd_nm (pu_if (te_cmp op_isN r2_isN (nomark _) (PuD.vi (pu_ix (PuD.vi (pu_dg (hu_of hr) (PuD.vi (pu_var (pv 1))) (PuD.vi (pu_c pe_str (by decide +kernel))) (fun _ _ => rfl))) (PuD.vi (pu_var (pv 4))) (fun _ _ => rfl))) (PuD.vi (pu_c pe_non rfl))) (pu_dg (hu_of hr) (PuD.vi (pu_var (pv 1))) (PuD.vi (pu_c pe_str (by decide +kernel))) (fun _ _ => rfl)) (OwD.pu (ow_cty (CallR.or call_list_of (call_list_dK rfl)) (R1O.or r1_lst r1_lstK) (by rfl) B.z_list (by decide +kernel) (av_cons (PuD.vi (pu_ix (PuD.vi (pu_dg (hu_of hr) (PuD.vi (pu_var (pv 1))) (PuD.vi (pu_c pe_str (by decide +kernel))) (fun _ _ => rfl))) (PuD.vi (pu_var (pv 4))) (fun _ _ => rfl))) av_nil)))) (fun h => ps_set (i := 9) scSLook.nd rfl (by first | exact Or.inl rfl | exact Or.inr rfl) h))) (ssw_one (sw_ret (pw_tup (aw_cons (PuD.w (pu_c pe_str (by decide +kernel))) (aw_cons (PuD.w (pu_ix (PuD.vi (pu_dg (hu_of hr) (PuD.vi (pu_var (pv 1))) (PuD.vi (pu_c pe_str (by decide +kernel))) (fun _ _ => rfl))) (PuD.vi (pu_var (pv 4))) (fun _ _ => rfl))) (aw_cons (pw_cty call_tuple_of r1_tup (by rfl) B.z_tuple (by decide +kernel) (aw_cons (pw_call hSm subS (hr.mono (by first | decide | omega)) (by rfl) (aw_cons (PuD.w (pu_var (pv 0))) (aw_cons (PuD.w (pu_var (pv 9))) aw_nil))) aw_nil)) aw_nil)))))))))))))⟩
end
end L2.K1

namespace L2.K1
open PySem PySem.Spec PyProof.Rows L2.Tr
section
variable {P : Program} {w : World} {K : PySem.W.Frag} {mg : Str → Option Value} {base : Heap}
abbrev sLook : Stmt := top 47
abbrev nLook : List Str := ["_law_stream", "_law_w", "_law_far", "_law_deep", "_law_way", "_law_one", "_law_kind"]
theorem scLook : FnScope nLook ["_law_stream", "_law_w", "_law_far", "_law_deep"] (defScope sLook) := ⟨rfl, rfl, rfl, by decide +kernel, rfl, by decide +kernel, by decide +kernel⟩
def FLook (a : Addr) (gLk : Addr → List D → Nat → (D → Nat → Prop) → Prop) : WF Nat Ou := (seqW (setW 4 (svP (ifW (lf (asBF (bin2 (intI fun i j => .bl (decide (j < i))) (atP 3) (kD (.leaf (.int 0)))))) (callW (drawW a) (consW (lf (atP 0)) (consW (lf (kD (.leaf (.int 6)))) nilW))) (lf (kD (.leaf (.int 5))))))) (seqW (ifSW (lf (asBF (bin2 (scD false) (atP 4) (kD (.leaf (.int 0)))))) (retW (tupW (consW (lf (kD (.leaf (.str "not")))) (consW (callW (gLk a) (consW (lf (atP 0)) (consW (lf (atP 1)) (consW (lf (atP 2)) (consW (lf (bin2 (intI fun i j => .int (i - j)) (atP 3) (kD (.leaf (.int 1))))) nilW))))) nilW)))) (lfS skipF)) (seqW (ifSW (lf (asBF (bin2 (intI fun i j => .bl (decide (i < j))) (atP 4) (kD (.leaf (.int 3)))))) (seqW (setW 5 (svP (callW (gLk a) (consW (lf (atP 0)) (consW (lf (atP 1)) (consW (lf (atP 2)) (consW (lf (bin2 (intI fun i j => .int (i - j)) (atP 3) (kD (.leaf (.int 1))))) nilW))))))) (seqW (setW 6 (svP (callW (fPickW a) (consW (lf (atP 0)) (consW (lf (mapS (lstDisp (consD (kD (.leaf (.str "and"))) (consD (kD (.leaf (.str "or"))) (consD (kD (.leaf (.str "less"))) (consD (kD (.leaf (.str "xor"))) nilD))))))) nilW))))) (retW (tupW (consW (lf (atP 6)) (consW (lf (atP 5)) (consW (callW (gLk a) (consW (lf (atP 0)) (consW (lf (atP 1)) (consW (lf (atP 2)) (consW (lf (bin2 (intI fun i j => .int (i - j)) (atP 3) (kD (.leaf (.int 1))))) nilW))))) nilW))))))) (lfS skipF)) (retW (callW (fSLook a) (consW (lf (atP 0)) (consW (lf (atP 1)) (consW (lf (atP 2)) nilW))))))))
def fLook (a : Addr) (gLk : Addr → List D → Nat → (D → Nat → Prop) → Prop) : List D → Nat → (D → Nat → Prop) → Prop := fun ds s R => ds.length = (["_law_stream", "_law_w", "_law_far", "_law_deep"] : List Str).length ∧ runW nLook.length (FLook a gLk ) ds s R
theorem okLook {f : Addr} {fd : FuncData} (gLk : Addr → List D → Nat → (D → Nat → Prop) → Prop) (F : Fun K "_law_look" "_law_look" sLook f fd) (B : TxB2 mg) {k : Nat} (hk : 4 ≤ k) (hDr : FnE P w K mg base "_law_draw" 1 spDraw) (hPk : FnE P w K mg base "_law_pick" 2 (spS fPickW)) (hSl : FnE P w K mg base "_law_simple_look" 4 (spS fSLook)) (hLk : FnE P w K mg base "_law_look" k (spS gLk)) : FnOk P w K mg base CX0 (k + 1) f fd ["_law_stream", "_law_w", "_law_far", "_law_deep"] (spS fun a => fLook a gLk ) :=
  ok_defW (N := nLook) (Ωs := fun j : Addr × Addr => St j.1 j.2) (Φs := fun j => FLook j.1 gLk ) F scLook fun j cdv A outer s H E hr => ⟨_, (ssw_cons (sw_set (i := 4) (PuW.sv (pw_if (TeD.w (te_cmp op_gt (r2_I0 fun _ _ => rfl) (nomark _) (PuD.vi (pu_var (pv 3))) (PuD.vi (pu_c pe_int rfl)))) (pw_call hDr subDraw (hr.mono (by first | decide | omega)) (by rfl) (aw_cons (PuD.w (pu_var (pv 0))) (aw_cons (PuD.w (pu_c pe_int rfl)) aw_nil))) (PuD.w (pu_c pe_int rfl)))) (fun h => ps_set (i := 4) scLook.nd rfl (by first | exact Or.inl rfl | exact Or.inr rfl) h)) (ssw_cons (sw_if (TeD.w (te_cmp op_eq r2_eqS (nomark _) (PuD.vi (pu_var (pv 4))) (PuD.vi (pu_c pe_int rfl)))) (ssw_one (sw_ret (pw_tup (aw_cons (PuD.w (pu_c pe_str (by decide +kernel))) (aw_cons (pw_call hLk subS (hr.mono (by first | decide | omega)) (by rfl) (aw_cons (PuD.w (pu_var (pv 0))) (aw_cons (PuD.w (pu_var (pv 1))) (aw_cons (PuD.w (pu_var (pv 2))) (aw_cons (PuD.w (pu_sub (PuD.vi (pu_var (pv 3))) (PuD.vi (pu_c pe_int rfl)))) aw_nil))))) aw_nil))))) (SsD.w ss_nil)) (ssw_cons (sw_if (TeD.w (te_cmp op_lt (r2_I0 fun _ _ => rfl) (nomark _) (PuD.vi (pu_var (pv 4))) (PuD.vi (pu_c pe_int rfl)))) (ssw_cons (sw_set (i := 5) (PuW.sv (pw_call hLk subS (hr.mono (by first | decide | omega)) (by rfl) (aw_cons (PuD.w (pu_var (pv 0))) (aw_cons (PuD.w (pu_var (pv 1))) (aw_cons (PuD.w (pu_var (pv 2))) (aw_cons (PuD.w (pu_sub (PuD.vi (pu_var (pv 3))) (PuD.vi (pu_c pe_int rfl)))) aw_nil)))))) (fun h => ps_set (i := 5) scLook.nd rfl (by first | exact Or.inl rfl | exact Or.inr rfl) h)) (ssw_cons (sw_set (i := 6) (PuW.sv (pw_call hPk subS (hr.mono (by first | decide | omega)) (by rfl) (aw_cons (PuD.w (pu_var (pv 0))) (aw_cons (PuD.w (OwD.pu (ow_lst (ar_cons (pu_c pe_str (by decide +kernel)) (ar_cons (pu_c pe_str (by decide +kernel)) (ar_cons (pu_c pe_str (by decide +kernel)) (ar_cons (pu_c pe_str (by decide +kernel)) ar_nil))))))) aw_nil)))) (fun h => ps_set (i := 6) scLook.nd rfl (by first | exact Or.inl rfl | exact Or.inr rfl) h)) (ssw_one (sw_ret (pw_tup (aw_cons (PuD.w (pu_var (pv 6))) (aw_cons (PuD.w (pu_var (pv 5))) (aw_cons (pw_call hLk subS (hr.mono (by first | decide | omega)) (by rfl) (aw_cons (PuD.w (pu_var (pv 0))) (aw_cons (PuD.w (pu_var (pv 1))) (aw_cons (PuD.w (pu_var (pv 2))) (aw_cons (PuD.w (pu_sub (PuD.vi (pu_var (pv 3))) (PuD.vi (pu_c pe_int rfl)))) aw_nil))))) aw_nil)))))))) (SsD.w ss_nil)) (ssw_one (sw_ret (pw_call hSl subS (hr.mono (by first | decide | omega)) (by rfl) (aw_cons (PuD.w (pu_var (pv 0))) (aw_cons (PuD.w (pu_var (pv 1))) (aw_cons (PuD.w (pu_var (pv 2))) aw_nil)))))))))⟩
abbrev sLookOf : Stmt := top 48
abbrev nLookOf : List Str := ["_law_columns_here", "_law_look_here", "_law_kind", "_law_one", "_law_other"]
theorem scLookOf : FnScope nLookOf ["_law_columns_here", "_law_look_here"] (defScope sLookOf) := ⟨rfl, rfl, rfl, by decide +kernel, rfl, by decide +kernel, by decide +kernel⟩
def FLookOf (C3 : Addr) (gHas gSame gNum gEv gAnd gOr gSub gXor gInv g : List D → Option D) : L2.Tr.Env → Option Out := (seqF (asgF (bin2 ixD (atP 1) (kD (.leaf (.int 0)))) (setF 2)) (seqF (ifS (asBF (bin2 (scD false) (atP 2) (kD (.leaf (.str "has"))))) (retF (app1 gHas (consD (atP 0) (consD (bin2 ixD (atP 1) (kD (.leaf (.int 1)))) (consD (bin2 ixD (atP 1) (kD (.leaf (.int 2)))) nilD))))) skipF) (seqF (ifS (asBF (bin2 (scD false) (atP 2) (kD (.leaf (.str "same"))))) (retF (app1 gSame (consD (atP 0) (consD (bin2 ixD (atP 1) (kD (.leaf (.int 1)))) (consD (bin2 ixD (atP 1) (kD (.leaf (.int 2)))) nilD))))) skipF) (seqF (ifS (asBF (bin2 (scD false) (atP 2) (kD (.leaf (.str "numbered"))))) (retF (app1 gNum (consD (atP 0) (consD (bin2 ixD (atP 1) (kD (.leaf (.int 1)))) nilD)))) skipF) (seqF (ifS (asBF (bin2 (scD false) (atP 2) (kD (.leaf (.str "every"))))) (retF (app1 gEv (consD (atP 0) nilD))) skipF) (seqF (asgF (app1 g (consD (atP 0) (consD (bin2 ixD (atP 1) (kD (.leaf (.int 1)))) nilD))) (setF 3)) (seqF (ifS (asBF (bin2 (scD false) (atP 2) (kD (.leaf (.str "not"))))) (retF (fun ρ => ((atP 3) ρ).bind (ownUD C3 gInv))) skipF) (seqF (asgF (app1 g (consD (atP 0) (consD (bin2 ixD (atP 1) (kD (.leaf (.int 2)))) nilD))) (setF 4)) (seqF (ifS (asBF (bin2 (scD false) (atP 2) (kD (.leaf (.str "and"))))) (retF (bin2 (ownBD C3 gAnd) (atP 3) (atP 4))) skipF) (seqF (ifS (asBF (bin2 (scD false) (atP 2) (kD (.leaf (.str "or"))))) (retF (bin2 (ownBD C3 gOr) (atP 3) (atP 4))) skipF) (retF (ifF (asBF (bin2 (scD false) (atP 2) (kD (.leaf (.str "less"))))) (bin2 (ownBD C3 gSub) (atP 3) (atP 4)) (bin2 (ownBD C3 gXor) (atP 3) (atP 4))))))))))))))
def fLookOf (C3 : Addr) (gHas gSame gNum gEv gAnd gOr gSub gXor gInv g : List D → Option D) (ds : List D) : Option D := if ds.length = (["_law_columns_here", "_law_look_here"] : List Str).length then runF nLookOf.length (FLookOf C3 gHas gSame gNum gEv gAnd gOr gSub gXor gInv g ) ds else none
theorem okLookOf {f : Addr} {fd : FuncData} (C3 : Addr) (gHas gSame gNum gEv gAnd gOr gSub gXor gInv g : List D → Option D) (F : Fun K "_law_look_of" "_law_look_of" sLookOf f fd) (B : TxB2 mg) {k : Nat} (hk : 6 ≤ k) (hHas : Fn P w K mg base "has" 4 3 gHas) (hSame : Fn P w K mg base "same" 4 3 gSame) (hNum : Fn P w K mg base "numbered" 4 2 gNum) (hEv : Fn P w K mg base "every" 4 1 gEv) (hAnd : BinO P w K mg base C3 "__and__" 5 gAnd) (hOr : BinO P w K mg base C3 "__or__" 5 gOr) (hSub : BinO P w K mg base C3 "__sub__" 6 gSub) (hXor : BinO P w K mg base C3 "__xor__" 6 gXor) (hInv : BinO P w K mg base C3 "__invert__" 4 gInv) (hO : Fn P w K mg base "_law_look_of" k 2 g) : FnOk P w K mg base CX0 (k + 1) f fd ["_law_columns_here", "_law_look_here"] (spP (fLookOf C3 gHas gSame gNum gEv gAnd gOr gSub gXor gInv g )) :=
  ok_def (N := nLookOf) (Φ := FLookOf C3 gHas gSame gNum gEv gAnd gOr gSub gXor gInv g ) F scLookOf fun cdv A outer s H E hr => ⟨_, (ss_cons (sd_nm (pu_ix (PuD.vi (pu_var (pv 1))) (PuD.vi (pu_c pe_int rfl)) (fun _ _ => rfl)) (fun h => ps_set (i := 2) scLookOf.nd rfl (by first | exact Or.inl rfl | exact Or.inr rfl) h)) (ss_cons (sd_if (te_cmp op_eq r2_eqS (nomark _) (PuD.vi (pu_var (pv 2))) (PuD.vi (pu_c pe_str (by decide +kernel)))) (ss_one (sd_ret (pu_call hHas (hr.mono (by first | decide | omega)) (by rfl) (ar_cons (pu_var (pv 0)) (ar_cons (pu_ix (PuD.vi (pu_var (pv 1))) (PuD.vi (pu_c pe_int rfl)) (fun _ _ => rfl)) (ar_cons (pu_ix (PuD.vi (pu_var (pv 1))) (PuD.vi (pu_c pe_int rfl)) (fun _ _ => rfl)) ar_nil)))))) ss_nil) (ss_cons (sd_if (te_cmp op_eq r2_eqS (nomark _) (PuD.vi (pu_var (pv 2))) (PuD.vi (pu_c pe_str (by decide +kernel)))) (ss_one (sd_ret (pu_call hSame (hr.mono (by first | decide | omega)) (by rfl) (ar_cons (pu_var (pv 0)) (ar_cons (pu_ix (PuD.vi (pu_var (pv 1))) (PuD.vi (pu_c pe_int rfl)) (fun _ _ => rfl)) (ar_cons (pu_ix (PuD.vi (pu_var (pv 1))) (PuD.vi (pu_c pe_int rfl)) (fun _ _ => rfl)) ar_nil)))))) ss_nil) (ss_cons (sd_if (te_cmp op_eq r2_eqS (nomark _) (PuD.vi (pu_var (pv 2))) (PuD.vi (pu_c pe_str (by decide +kernel)))) (ss_one (sd_ret (pu_call hNum (hr.mono (by first | decide | omega)) (by rfl) (ar_cons (pu_var (pv 0)) (ar_cons (pu_ix (PuD.vi (pu_var (pv 1))) (PuD.vi (pu_c pe_int rfl)) (fun _ _ => rfl)) ar_nil))))) ss_nil) (ss_cons (sd_if (te_cmp op_eq r2_eqS (nomark _) (PuD.vi (pu_var (pv 2))) (PuD.vi (pu_c pe_str (by decide +kernel)))) (ss_one (sd_ret (pu_call hEv (hr.mono (by first | decide | omega)) (by rfl) (ar_cons (pu_var (pv 0)) ar_nil)))) ss_nil) (ss_cons (sd_nm (pu_call hO (hr.mono (by first | decide | omega)) (by rfl) (ar_cons (pu_var (pv 0)) (ar_cons (pu_ix (PuD.vi (pu_var (pv 1))) (PuD.vi (pu_c pe_int rfl)) (fun _ _ => rfl)) ar_nil))) (fun h => ps_set (i := 3) scLookOf.nd rfl (by first | exact Or.inl rfl | exact Or.inr rfl) h)) (ss_cons (sd_if (te_cmp op_eq r2_eqS (nomark _) (PuD.vi (pu_var (pv 2))) (PuD.vi (pu_c pe_str (by decide +kernel)))) (ss_one (sd_ret (pu_ownU hInv (hr.mono (by first | decide | omega)) (pu_var (pv 3))))) ss_nil) (ss_cons (sd_nm (pu_call hO (hr.mono (by first | decide | omega)) (by rfl) (ar_cons (pu_var (pv 0)) (ar_cons (pu_ix (PuD.vi (pu_var (pv 1))) (PuD.vi (pu_c pe_int rfl)) (fun _ _ => rfl)) ar_nil))) (fun h => ps_set (i := 4) scLookOf.nd rfl (by first | exact Or.inl rfl | exact Or.inr rfl) h)) (ss_cons (sd_if (te_cmp op_eq r2_eqS (nomark _) (PuD.vi (pu_var (pv 2))) (PuD.vi (pu_c pe_str (by decide +kernel)))) (ss_one (sd_ret (pu_ownB hAnd (hr.mono (by first | decide | omega)) (pu_var (pv 3)) (pu_var (pv 4))))) ss_nil) (ss_cons (sd_if (te_cmp op_eq r2_eqS (nomark _) (PuD.vi (pu_var (pv 2))) (PuD.vi (pu_c pe_str (by decide +kernel)))) (ss_one (sd_ret (pu_ownB hOr (hr.mono (by first | decide | omega)) (pu_var (pv 3)) (pu_var (pv 4))))) ss_nil) (ss_one (sd_ret (pu_if (te_cmp op_eq r2_eqS (nomark _) (PuD.vi (pu_var (pv 2))) (PuD.vi (pu_c pe_str (by decide +kernel)))) (pu_ownB hSub (hr.mono (by first | decide | omega)) (pu_var (pv 3)) (pu_var (pv 4))) (pu_ownB hXor (hr.mono (by first | decide | omega)) (pu_var (pv 3)) (pu_var (pv 4))))))))))))))))⟩
abbrev sHolds : Stmt := top 57
abbrev nHolds : List Str := ["_law_w", "_law_look_here", "_law_row", "_law_number", "_law_kind", "_law_names", "_law_one", "_law_other"]
theorem scHolds : FnScope nHolds ["_law_w", "_law_look_here", "_law_row", "_law_number"] (defScope sHolds) := ⟨rfl, rfl, rfl, by decide +kernel, rfl, by decide +kernel, by decide +kernel⟩
def FHolds (g : List D → Option D) : L2.Tr.Env → Option Out := (seqF (par_pp 4 5 (bin2 ixD (atP 1) (kD (.leaf (.int 0)))) (bin2 dgD (atP 0) (kD (.leaf (.str "names"))))) (seqF (ifS (asBF (bin2 (scD false) (atP 4) (kD (.leaf (.str "has"))))) (retF (bin2 (inD false) (bin2 ixD (atP 2) (bin2 indexD (atP 5) (bin2 ixD (atP 1) (kD (.leaf (.int 1)))))) (bin2 ixD (atP 1) (kD (.leaf (.int 2)))))) skipF) (seqF (ifS (asBF (bin2 (scD false) (atP 4) (kD (.leaf (.str "same"))))) (retF (bin2 (scD false) (bin2 ixD (atP 2) (bin2 indexD (atP 5) (bin2 ixD (atP 1) (kD (.leaf (.int 1)))))) (bin2 ixD (atP 2) (bin2 indexD (atP 5) (bin2 ixD (atP 1) (kD (.leaf (.int 2)))))))) skipF) (seqF (ifS (asBF (bin2 (scD false) (atP 4) (kD (.leaf (.str "numbered"))))) (retF (bin2 (inD false) (atP 3) (bin2 ixD (atP 1) (kD (.leaf (.int 1)))))) skipF) (seqF (ifS (asBF (bin2 (scD false) (atP 4) (kD (.leaf (.str "every"))))) (retF (kD (.leaf (.bl true)))) skipF) (seqF (asgF (app1 g (consD (atP 0) (consD (bin2 ixD (atP 1) (kD (.leaf (.int 1)))) (consD (atP 2) (consD (atP 3) nilD))))) (setF 6)) (seqF (ifS (asBF (bin2 (scD false) (atP 4) (kD (.leaf (.str "not"))))) (retF (notF (atP 6))) skipF) (seqF (asgF (app1 g (consD (atP 0) (consD (bin2 ixD (atP 1) (kD (.leaf (.int 2)))) (consD (atP 2) (consD (atP 3) nilD))))) (setF 7)) (retF (bin2 dgD (dispF ["and", "or", "less", "xor"] (consD (andF (atP 6) (atP 7)) (consD (orF (atP 6) (atP 7)) (consD (andF (atP 6) (notF (atP 7))) (consD (bin2 (scD true) (atP 6) (atP 7)) nilD))))) (atP 4)))))))))))
def fHolds (g : List D → Option D) (ds : List D) : Option D := if ds.length = (["_law_w", "_law_look_here", "_law_row", "_law_number"] : List Str).length then runF nHolds.length (FHolds g ) ds else none
theorem okHolds {f : Addr} {fd : FuncData} (g : List D → Option D) (F : Fun K "_law_holds" "_law_holds" sHolds f fd) (B : TxB2 mg) {k : Nat} (hO : Fn P w K mg base "_law_holds" k 4 g) : FnOk P w K mg base CX0 (k + 1) f fd ["_law_w", "_law_look_here", "_law_row", "_law_number"] (spP (fHolds g )) :=
  ok_def (N := nHolds) (Φ := FHolds g ) F scHolds fun cdv A outer s H E hr => ⟨_, (ss_cons (sd_par_pp (pu_ix (PuD.vi (pu_var (pv 1))) (PuD.vi (pu_c pe_int rfl)) (fun _ _ => rfl)) (pu_dg (hu_of hr) (PuD.vi (pu_var (pv 0))) (PuD.vi (pu_c pe_str (by decide +kernel))) (fun _ _ => rfl)) (by decide) (fun h => ps_par (i := 4) (j := 5) rfl scHolds.nd rfl rfl (by decide) rfl rfl h (by rfl))) (ss_cons (sd_if (te_cmp op_eq r2_eqS (nomark _) (PuD.vi (pu_var (pv 4))) (PuD.vi (pu_c pe_str (by decide +kernel)))) (ss_one (sd_ret (pu_cmp op_in_seq r2_in (by with_unfolding_all rfl) (PuD.vi (pu_ix (PuD.vi (pu_var (pv 2))) (PuD.vi (pu_index (pu_var (pv 5)) (pu_ix (PuD.vi (pu_var (pv 1))) (PuD.vi (pu_c pe_int rfl)) (fun _ _ => rfl)) (fun ho h => pe_bm PySem.F.plainAttrs_list PySem.F.slot_list_index PySem.F.type_list_index mt_index ho (pa_cons h pa_nil)))) (fun _ _ => rfl))) (PuD.vi (pu_ix (PuD.vi (pu_var (pv 1))) (PuD.vi (pu_c pe_int rfl)) (fun _ _ => rfl)))))) ss_nil) (ss_cons (sd_if (te_cmp op_eq r2_eqS (nomark _) (PuD.vi (pu_var (pv 4))) (PuD.vi (pu_c pe_str (by decide +kernel)))) (ss_one (sd_ret (pu_cmp op_eq r2_eqS (nomark _) (PuD.vi (pu_ix (PuD.vi (pu_var (pv 2))) (PuD.vi (pu_index (pu_var (pv 5)) (pu_ix (PuD.vi (pu_var (pv 1))) (PuD.vi (pu_c pe_int rfl)) (fun _ _ => rfl)) (fun ho h => pe_bm PySem.F.plainAttrs_list PySem.F.slot_list_index PySem.F.type_list_index mt_index ho (pa_cons h pa_nil)))) (fun _ _ => rfl))) (PuD.vi (pu_ix (PuD.vi (pu_var (pv 2))) (PuD.vi (pu_index (pu_var (pv 5)) (pu_ix (PuD.vi (pu_var (pv 1))) (PuD.vi (pu_c pe_int rfl)) (fun _ _ => rfl)) (fun ho h => pe_bm PySem.F.plainAttrs_list PySem.F.slot_list_index PySem.F.type_list_index mt_index ho (pa_cons h pa_nil)))) (fun _ _ => rfl)))))) ss_nil) (ss_cons (sd_if (te_cmp op_eq r2_eqS (nomark _) (PuD.vi (pu_var (pv 4))) (PuD.vi (pu_c pe_str (by decide +kernel)))) (ss_one (sd_ret (pu_cmp op_in_seq r2_in (by with_unfolding_all rfl) (PuD.vi (pu_var (pv 3))) (PuD.vi (pu_ix (PuD.vi (pu_var (pv 1))) (PuD.vi (pu_c pe_int rfl)) (fun _ _ => rfl)))))) ss_nil) (ss_cons (sd_if (te_cmp op_eq r2_eqS (nomark _) (PuD.vi (pu_var (pv 4))) (PuD.vi (pu_c pe_str (by decide +kernel)))) (ss_one (sd_ret (pu_c pe_bl rfl))) ss_nil) (ss_cons (sd_nm (pu_call hO (hr.mono (by first | decide | omega)) (by rfl) (ar_cons (pu_var (pv 0)) (ar_cons (pu_ix (PuD.vi (pu_var (pv 1))) (PuD.vi (pu_c pe_int rfl)) (fun _ _ => rfl)) (ar_cons (pu_var (pv 2)) (ar_cons (pu_var (pv 3)) ar_nil))))) (fun h => ps_set (i := 6) scHolds.nd rfl (by first | exact Or.inl rfl | exact Or.inr rfl) h)) (ss_cons (sd_if (te_cmp op_eq r2_eqS (nomark _) (PuD.vi (pu_var (pv 4))) (PuD.vi (pu_c pe_str (by decide +kernel)))) (ss_one (sd_ret (pu_notT (PuD.vi (pu_var (pv 6)))))) ss_nil) (ss_cons (sd_nm (pu_call hO (hr.mono (by first | decide | omega)) (by rfl) (ar_cons (pu_var (pv 0)) (ar_cons (pu_ix (PuD.vi (pu_var (pv 1))) (PuD.vi (pu_c pe_int rfl)) (fun _ _ => rfl)) (ar_cons (pu_var (pv 2)) (ar_cons (pu_var (pv 3)) ar_nil))))) (fun h => ps_set (i := 7) scHolds.nd rfl (by first | exact Or.inl rfl | exact Or.inr rfl) h)) (ss_one (sd_ret (pu_dg (hu_of hr) (PuD.vi (pu_disp (ks := ["and", "or", "less", "xor"]) (ds_cons (x := "and") pe_str (pu_andT (pu_var (pv 6)) (pu_one (pu_var (pv 7)))) (ds_cons (x := "or") pe_str (pu_orT (pu_var (pv 6)) (pu_one (pu_var (pv 7)))) (ds_cons (x := "less") pe_str (pu_andT (pu_var (pv 6)) (pu_one (pu_notT (PuD.vi (pu_var (pv 7)))))) (ds_cons (x := "xor") pe_str (pu_cmp op_ne r2_neS (nomark _) (PuD.vi (pu_var (pv 6))) (PuD.vi (pu_var (pv 7)))) ds_nil)))) (by decide +kernel) (by decide) rfl rfl (fun z => nomatch z) (by decide))) (PuD.vi (pu_var (pv 4))) (fun _ _ => rfl))))))))))))⟩
end
end L2.K1

namespace L2.K1
open PySem PySem.Spec PyProof.Rows L2.Tr
section
variable {P : Program} {w : World} {K : PySem.W.Frag} {mg : Str → Option Value} {base : Heap}
abbrev sLaw : Stmt := top 58
abbrev nLaw : List Str := ["_law_script", "_law_stream", "_law_shapes", "_law_turn", "_law_w", "_law_columns_here", "_law_k", "_law_look_here", "_law_made", "_law_row", "_law_number", "_law_due"]
theorem scLaw : FnScope nLaw ["_law_script"] (defScope sLaw) := ⟨rfl, rfl, rfl, by decide +kernel, rfl, by decide +kernel, by decide +kernel⟩
abbrev XL (P : Program) (w : World) (K : PySem.W.Frag) (mg : Str → Option Value) (base : Heap) (f : Addr) (cdv : Value) (A : Around) (outer : List PySem.Env) (s : Shared) (H : Hp) (E : XK) : Cx := (cxOf CX0 P w K mg base nLaw "law" (defScope sLaw) f cdv A outer s H E).nox
def FLaw (a : Addr) (C C3 : Addr) (gLk : Addr → List D → Nat → (D → Nat → Prop) → Prop) (gCo gE gLo gHo gS gCall : List D → Option D) : WF Nat Ou := (seqW (lfS (asgF (mapS (lstDisp (consD (tupDisp (consD (mapS (lstDisp (consD (kD (.leaf (.int 2))) (consD (kD (.leaf (.int 3))) nilD)))) (consD (kD (.leaf (.int 0))) nilD))) (consD (tupDisp (consD (mapS (lstDisp (consD (kD (.leaf (.int 2))) (consD (kD (.leaf (.int 2))) nilD)))) (consD (kD (.leaf (.int 0))) nilD))) (consD (tupDisp (consD (mapS (lstDisp (consD (kD (.leaf (.int 2))) nilD))) (consD (kD (.leaf (.int 1))) nilD))) (consD (tupDisp (consD (mapS (lstDisp nilD)) (consD (kD (.leaf (.int 2))) nilD))) (consD (tupDisp (consD (mapS (lstDisp (consD (kD (.leaf (.int 2))) nilD))) (consD (kD (.leaf (.int 2))) nilD))) (consD (tupDisp (consD (mapS (lstDisp (consD (kD (.leaf (.int 3))) nilD))) (consD (kD (.leaf (.int 0))) nilD))) nilD)))))))) (setF 2))) (seqW (forW (lf (rngF (kD (.leaf (.int 5))))) (setF 3) (seqW (setW 4 (svP (callW (fWorld a) (consW (lf (atP 1)) (consW (lf (atP 2)) nilW))))) (seqW (lfS (asgF (app1 gCo (consD (atP 4) nilD)) (setF 5))) (forW (lf (rngF (kD (.leaf (.int 4))))) (setF 6) (seqW (setW 7 (svP (callW (gLk a) (consW (lf (atP 1)) (consW (lf (atP 4)) (consW (lf (kD (.leaf (.int 4)))) (consW (lf (kD (.leaf (.int 2)))) nilW))))))) (lfS (seqF (asgF (app1 gLo (consD (atP 5) (consD (atP 7) nilD))) (setF 8)) (seqF (ifS (asBF (bin2 (eqOD true C gE) (fldF C3 "columns" (atP 8)) (atP 5))) (retF (kD (.leaf (.bl false)))) skipF) (forF (seqsF (app1 fLetters (consD (atP 4) nilD))) (setF 9) (forF (seqsF (mapS (lstDisp (consD (kD (.leaf (.int 1))) (consD (kD (.leaf (.int 2))) (consD (kD (.leaf (.int 3))) (consD (kD (.leaf (.int 4))) (consD (kD (.leaf (.int 5))) (consD (kD (.leaf (.int 6))) (consD (bin2 powD (kD (.leaf (.int 10))) (kD (.leaf (.int 30)))) nilD)))))))))) (setF 10) (seqF (asgF (app1 gHo (consD (atP 4) (consD (atP 7) (consD (atP 9) (consD (atP 10) nilD))))) (setF 11)) (ifS (notB (truF (app1 gS (consD (mapS (lstDisp (consD (callOD C3 gCall (atP 8) (consD (atP 9) (consD (atP 10) nilD))) (consD (callOD C3 gCall (atP 8) (consD (mapS (app1 lstA (consD (atP 9) nilD))) (consD (atP 10) nilD))) nilD)))) (consD (mapS (lstDisp (consD (atP 11) (consD (atP 11) nilD)))) nilD))))) (retF (kD (.leaf (.bl false)))) skipF)))))))))))) (lfS (retF (kD (.leaf (.bl true)))))))
theorem law_d {f : Addr} (B : TxB2 mg) {cdv : Value} {A : Around} {outer : List PySem.Env} {s : Shared} {H : Hp} {E : XK} (hr : Room 10 (A.deeper (envOfC "law" (defScope sLaw) s.heap.objs.size f cdv))) {a b C C3 : Addr} {gLk : Addr → List D → Nat → (D → Nat → Prop) → Prop} {gCo gE gLo gHo gS gCall : List D → Option D} (hDr : FnE P w K mg base "_law_draw" 1 spDraw) (hWo : FnE P w K mg base "_law_world" 5 (spS fWorld)) (hLk : FnE P w K mg base "_law_look" 7 (spS gLk)) (hCo : Fn P w K mg base "_law_columns" 6 1 gCo) (hLo : Fn P w K mg base "_law_look_of" 9 2 gLo) (hLe : Fn P w K mg base "_law_letters" 2 1 fLetters) (hHo : Fn P w K mg base "_law_holds" 4 4 gHo) (hS : Fn P w K mg base "_law_same" 4 2 gS) (clL : Cls K C3) (m1 : NoAttr K C3 "columns") (mE : Eqr P w K mg base C 1 gE) (mC : ClO P w K mg base C3 4 gCall) :
    ∃ t, SsW (St a b) W0 (XL P w K mg base f cdv A outer s H E) ((defBody sLaw).drop 1) t (FLaw a C C3 gLk gCo gE gLo gHo gS gCall ) := ⟨_, (ssw_cons (StD.w (sd_nm (OwD.pu (ow_lst (ar_cons (pu_tup (ar_cons (OwD.pu (ow_lst (ar_cons (pu_c pe_int rfl) (ar_cons (pu_c pe_int rfl) ar_nil)))) (ar_cons (pu_c pe_int rfl) ar_nil))) (ar_cons (pu_tup (ar_cons (OwD.pu (ow_lst (ar_cons (pu_c pe_int rfl) (ar_cons (pu_c pe_int rfl) ar_nil)))) (ar_cons (pu_c pe_int rfl) ar_nil))) (ar_cons (pu_tup (ar_cons (OwD.pu (ow_lst (ar_cons (pu_c pe_int rfl) ar_nil))) (ar_cons (pu_c pe_int rfl) ar_nil))) (ar_cons (pu_tup (ar_cons (OwD.pu (ow_lst ar_nil)) (ar_cons (pu_c pe_int rfl) ar_nil))) (ar_cons (pu_tup (ar_cons (OwD.pu (ow_lst (ar_cons (pu_c pe_int rfl) ar_nil))) (ar_cons (pu_c pe_int rfl) ar_nil))) (ar_cons (pu_tup (ar_cons (OwD.pu (ow_lst (ar_cons (pu_c pe_int rfl) ar_nil))) (ar_cons (pu_c pe_int rfl) ar_nil))) ar_nil)))))))) (fun h => ps_set (i := 2) scLaw.nd rfl (by first | exact Or.inl rfl | exact Or.inr rfl) h))) (ssw_cons (sw_for PassesOwn.never rfl (ItD.w (it_rng (pu_c pe_int rfl) (by rfl) B.z_range)) (tg_name (pg_name (i := 3) scLaw.nd rfl (by first | exact Or.inl rfl | exact Or.inr rfl))) (ssw_cons (sw_set (i := 4) (PuW.sv (pw_call hWo subS (hr.mono (by first | decide | omega)) (by rfl) (aw_cons (PuD.w (pu_var (pv 1))) (aw_cons (PuD.w (pu_var (pv 2))) aw_nil)))) (fun h => ps_set (i := 4) scLaw.nd rfl (by first | exact Or.inl rfl | exact Or.inr rfl) h)) (ssw_cons (StD.w (sd_nm (pu_call hCo (hr.mono (by first | decide | omega)) (by rfl) (ar_cons (pu_var (pv 4)) ar_nil)) (fun h => ps_set (i := 5) scLaw.nd rfl (by first | exact Or.inl rfl | exact Or.inr rfl) h))) (ssw_one (sw_for PassesOwn.never rfl (ItD.w (it_rng (pu_c pe_int rfl) (by rfl) B.z_range)) (tg_name (pg_name (i := 6) scLaw.nd rfl (by first | exact Or.inl rfl | exact Or.inr rfl))) (ssw_cons (sw_set (i := 7) (PuW.sv (pw_call hLk subS (hr.mono (by first | decide | omega)) (by rfl) (aw_cons (PuD.w (pu_var (pv 1))) (aw_cons (PuD.w (pu_var (pv 4))) (aw_cons (PuD.w (pu_c pe_int rfl)) (aw_cons (PuD.w (pu_c pe_int rfl)) aw_nil)))))) (fun h => ps_set (i := 7) scLaw.nd rfl (by first | exact Or.inl rfl | exact Or.inr rfl) h)) (SsD.w (ss_cons (sd_nm (pu_call hLo (hr.mono (by first | decide | omega)) (by rfl) (ar_cons (pu_var (pv 5)) (ar_cons (pu_var (pv 7)) ar_nil))) (fun h => ps_set (i := 8) scLaw.nd rfl (by first | exact Or.inl rfl | exact Or.inr rfl) h)) (ss_cons (sd_if (te_cmp (eqr_ne mE (hr.mono (by first | decide | omega))) r2_eqO (nomark _) (PuD.vi (pu_fld clL m1 (PuD.vi (pu_var (pv 8))))) (PuD.vi (pu_var (pv 5)))) (ss_one (sd_ret (pu_c pe_bl rfl))) ss_nil) (ss_one (sd_for PassesOwn.never rfl (it_seq (pu_call hLe (hr.mono (by first | decide | omega)) (by rfl) (ar_cons (pu_var (pv 4)) ar_nil))) (tg_name (pg_name (i := 9) scLaw.nd rfl (by first | exact Or.inl rfl | exact Or.inr rfl))) (ss_one (sd_for PassesOwn.never rfl (it_seq (OwD.pu (ow_lst (ar_cons (pu_c pe_int rfl) (ar_cons (pu_c pe_int rfl) (ar_cons (pu_c pe_int rfl) (ar_cons (pu_c pe_int rfl) (ar_cons (pu_c pe_int rfl) (ar_cons (pu_c pe_int rfl) (ar_cons (pu_pow (PuD.vi (pu_c pe_int rfl)) (PuD.vi (pu_c pe_int rfl))) ar_nil)))))))))) (tg_name (pg_name (i := 10) scLaw.nd rfl (by first | exact Or.inl rfl | exact Or.inr rfl))) (ss_cons (sd_nm (pu_call hHo (hr.mono (by first | decide | omega)) (by rfl) (ar_cons (pu_var (pv 4)) (ar_cons (pu_var (pv 7)) (ar_cons (pu_var (pv 9)) (ar_cons (pu_var (pv 10)) ar_nil))))) (fun h => ps_set (i := 11) scLaw.nd rfl (by first | exact Or.inl rfl | exact Or.inr rfl) h)) (ss_one (sd_if (te_not (te_tru (PuD.vi (pu_call hS (hr.mono (by first | decide | omega)) (by rfl) (ar_cons (OwD.pu (ow_lst (ar_cons (pu_callO mC (hr.mono (by first | decide | omega)) (pu_var (pv 8)) (ar_cons (pu_var (pv 9)) (ar_cons (pu_var (pv 10)) ar_nil))) (ar_cons (pu_callO mC (hr.mono (by first | decide | omega)) (pu_var (pv 8)) (ar_cons (OwD.pu (ow_cty (CallR.or call_list_of (call_list_dK rfl)) (R1O.or r1_lst r1_lstK) (by rfl) B.z_list (by decide +kernel) (av_cons (PuD.vi (pu_var (pv 9))) av_nil))) (ar_cons (pu_var (pv 10)) ar_nil))) ar_nil)))) (ar_cons (OwD.pu (ow_lst (ar_cons (pu_var (pv 11)) (ar_cons (pu_var (pv 11)) ar_nil)))) ar_nil)))) (fun _ => rfl))) (ss_one (sd_ret (pu_c pe_bl rfl))) ss_nil)))))))))))))))) (SsD.w (ss_one (sd_ret (pu_c pe_bl rfl))))))⟩
end
end L2.K1

namespace L2.K1
open PySem PySem.Spec PyProof.Rows L2.Tr
/-! values, pairs, names: where they are good -/
structure Vals (xs : List Str) : Prop where
  lo : 1 ≤ xs.length
  hi : xs.length ≤ 3
  ws : ∀ x ∈ xs, isW x = true
  nd : xs.Nodup
structure Nm (x : Str) : Prop where
  w : isW x = true
  n : x ≠ "number"
theorem are_good {b : Bool} {xs : List Str} (h : Vals xs) : fAre [.seq b (xs.map sD)] = some (bD true) := by
  have hlen : (xs.map sD).length = xs.length := List.length_map ..
  have lA : (app1 lenA (consD (atP 0) nilD)) [.pu (.seq b (xs.map sD)), .un] = some (.leaf (.int xs.length)) := by
    show some (D.leaf (.int ((xs.map sD).length : Nat))) = _
    rw [hlen]
  have t0 : (orB (notB (truF (app1 fIsL (consD (atP 0) nilD)))) (notB (asBF (chainF (intI fun i j => .bl (decide (i ≤ j))) (intI fun i j => .bl (decide (i ≤ j))) (kD (.leaf (.int 1))) (app1 lenA (consD (atP 0) nilD)) (kD (.leaf (.int 3))))))) [.pu (.seq b (xs.map sD)), .un] = some false := by
    have a : (notB (truF (app1 fIsL (consD (atP 0) nilD)))) [.pu (.seq b (xs.map sD)), .un] = some false := by
      show Option.map (!·) ((fIsL [.seq b (xs.map sD)]).bind truD) = _
      rw [l_seq]; rfl
    unfold orB
    rw [a]
    show Option.map (!·) ((((some (D.leaf (.int 1))).bind fun x => ((app1 lenA (consD (atP 0) nilD)) [.pu (.seq b (xs.map sD)), .un]).bind fun y => (((intI fun i j => .bl (decide (i ≤ j))) x y).bind asB).bind fun k => if k = true then (some (D.leaf (.int 3))).bind fun z => (intI fun i j => .bl (decide (i ≤ j))) y z else some (bD false))).bind asB) = _
    rw [lA]
    show Option.map (!·) ((((some (bD (decide ((1 : Int) ≤ xs.length)))).bind asB).bind fun k => if k = true then some (bD (decide ((xs.length : Int) ≤ 3))) else some (bD false)).bind asB) = _
    rw [decide_eq_true (show (1 : Int) ≤ xs.length from by have := h.lo; omega), decide_eq_true (show (xs.length : Int) ≤ 3 from by have := h.hi; omega)]
    rfl
  have c1 : (lcF [1] (seqsF (atP 0)) (setF 1) yesF (app1 fIsW (consD (atP 1) nilD))) [.pu (.seq b (xs.map sD)), .un] = some (xs.map fun _ => bD true) := by
    show (if (xs.map sD).length ≤ Lim then compF _ _ _ (xs.map sD) _ else none) = _
    rw [if_pos (by rw [hlen]; have := h.hi; have : Lim = 5000 := rfl; omega)]
    rw [comp_map (g := fun _ => bD true) fun d hd => ?_, List.map_map]
    · rfl
    · obtain ⟨x, hx, rfl⟩ := List.mem_map.mp hd
      exact ⟨_, rfl, rfl, by show fIsW [sD x] = _; rw [w_str, h.ws x hx]⟩
  have ls : lenSF (atP 0) [.pu (.seq b (xs.map sD)), .un] = some (.leaf (.int xs.length)) := by
    show ((strsOf (xs.map sD)).bind fun ys => if ys.length ≤ 100 then some (D.leaf (.int (Vs.dcn ys ys.length))) else none) = _
    rw [L2.Tr.strs_map, Option.bind_some, if_pos (by have := h.hi; omega), (Vs.dcn_nodup (Nat.le_refl _)).mpr (by rw [List.take_length]; exact h.nd)]
  refine run_rt ?_
  show seqF _ _ [.pu (.seq b (xs.map sD)), .un] = _
  rw [seq_if_f t0]
  refine ret_f ?_
  rw [and_t, bin_2 ls lA]
  · show some (bD (xor false (decide (V.int xs.length = V.int xs.length)))) = _
    rw [decide_eq_true rfl]; rfl
  · rw [app_1 (maps_ c1), all_map (fun _ => true), List.all_eq_true.mpr fun _ _ => rfl]
theorem n_good {x : Str} (h : Nm x) : fIsN [sD x] = some (bD true) := by rw [n_str, h.w, decide_eq_true h.n]; rfl
theorem told_good {b b2 : Bool} {x : Str} {xs : List Str} (h1 : Nm x) (h2 : Vals xs) : fTold [.seq b [sD x, .seq b2 (xs.map sD)]] = some (bD true) := by
  show (Option.map Out.rt (((fIsL [.seq b [sD x, .seq b2 (xs.map sD)]]).bind fun y => (truD y).bind fun k => if k = true then (andF (bin2 (scD false) (app1 lenA (consD (atP 0) nilD)) (kD (.leaf (.int 2)))) (andF (app1 fIsN (consD (bin2 ixD (atP 0) (kD (.leaf (.int 0)))) nilD)) (app1 fAre (consD (bin2 ixD (atP 0) (kD (.leaf (.int 1)))) nilD)))) [.pu (.seq b [sD x, .seq b2 (xs.map sD)])] else some y))).bind _ = _
  rw [l_seq]
  show (Option.map Out.rt ((fIsN [sD x]).bind fun y => (truD y).bind fun k => if k = true then fAre [.seq b2 (xs.map sD)] else some y)).bind _ = _
  rw [n_good h1]
  show (Option.map Out.rt (fAre [.seq b2 (xs.map sD)])).bind _ = _
  rw [are_good h2]; rfl
/-! can_stand -/
theorem eqV_str (x y : Str) : eqV (.str x) (.str y) = decide (x = y) := by
  unfold eqV
  first | rfl | simp
theorem inV_str (x : Str) : ∀ xs : List Str, inV (.str x) (xs.map V.str) = decide (x ∈ xs)
  | [] => rfl
  | y :: ys => by
    have ih := inV_str x ys
    unfold inV at ih ⊢
    rw [List.map_cons, List.any_cons, ih, eqV_str]
    by_cases h : y = x
    · subst h; simp
    · have h2 : x ≠ y := fun z => h z.symm
      simp [h, h2]
theorem leaves_str (xs : List Str) : leaves (xs.map sD) = some (xs.map V.str) := by
  have : xs.map sD = (xs.map V.str).map D.leaf := by rw [List.map_map]; rfl
  rw [this, leaves_map]
  rw [List.all_map]
  exact List.all_eq_true.mpr fun _ _ => rfl
theorem inD_str (neg b : Bool) (x : Str) (xs : List Str) : inD neg (sD x) (.seq b (xs.map sD)) = some (bD (xor neg (decide (x ∈ xs)))) := by
  show (leaves (xs.map sD)).map (fun vs => bD (xor neg (inV (.str x) vs))) = _
  rw [leaves_str]
  show some (bD (xor neg (inV (.str x) (xs.map V.str)))) = _
  rw [inV_str]
theorem can_bad {d v : D} (h : fIsW [d] = some (bD false)) : fCan [d, v] = some (bD false) := by
  show (Option.map Out.rt ((fIsW [d]).bind _)).bind _ = _
  rw [h]; rfl
theorem can_free (x : Str) : fCan [sD x, .leaf .non] = some (bD (isW x)) := by
  show (Option.map Out.rt ((fIsW [sD x]).bind fun y => (truD y).bind fun k => if k = true then some (bD true) else some y)).bind _ = _
  rw [w_str]
  cases isW x <;> rfl
theorem can_told (x : Str) (b : Bool) (xs : List Str) : fCan [sD x, .seq b (xs.map sD)] = some (bD (isW x && decide (x ∈ xs))) := by
  show (Option.map Out.rt ((fIsW [sD x]).bind fun y => (truD y).bind fun k => if k = true then inD false (sD x) (.seq b (xs.map sD)) else some y)).bind _ = _
  rw [w_str, inD_str, Bool.false_xor]
  cases isW x <;> rfl
end L2.K1

namespace L2.K1
open PySem PySem.Spec PyProof.Rows L2.Tr
/-! Columns(told, free) -/
def iB1 : L2.Tr.Env → Option Out := seqF (ifS (orB (asBF (bin2 (scD false) (atP 4) (kD (.leaf (.int 3))))) (orB (notB (truF (app1 fTold (consD (atP 5) nilD)))) (bin2 (dinB false) (bin2 ixD (atP 5) (kD (.leaf (.int 0)))) (atV 3)))) neverF skipF) (dputF 3 (bin2 ixD (atP 5) (kD (.leaf (.int 0)))) (app1 tupD (consD (bin2 ixD (atP 5) (kD (.leaf (.int 1)))) nilD)))
def iB2 : L2.Tr.Env → Option Out := seqF (asgF (bin2 addD (app1 lenA (consD (atP 1) nilD)) (atP 6)) (setF 4)) (seqF (ifS (orB (asBF (bin2 (scD false) (atP 4) (kD (.leaf (.int 3))))) (orB (asBF (bin2 (scD false) (atP 6) (kD (.leaf (.int 2))))) (orB (notB (truF (app1 fIsN (consD (atP 7) nilD)))) (bin2 (dinB false) (atP 7) (atV 3))))) neverF skipF) (dputF 3 (atP 7) (kD (.leaf .non))))
theorem memK_str (x : Str) : ∀ ns : List Str, memK (.inr x) (ns.map Sum.inr) = decide (x ∈ ns)
  | [] => rfl
  | n :: ns => by
    show (decide ((Sum.inr n : Key) = .inr x) || memK (.inr x) (ns.map Sum.inr)) = _
    rw [memK_str x ns]
    by_cases h : n = x
    · subst h; simp
    · have h2 : x ≠ n := fun z => h z.symm
      have h3 : ¬ (Sum.inr n : Key) = .inr x := fun z => h (Sum.inr.inj z)
      simp [h2, h3]
/-- a pair of a name and its values, lists or tuples -/
def PairIs (d : D) (p : Str × List Str) : Prop := ∃ b b2, d = .seq b [sD p.1, .seq b2 (p.2.map sD)]
structure Told (p : Str × List Str) : Prop where
  n : Nm p.1
  v : Vals p.2
def stI (o : D) (t f : D) (ns : List Str) (vs : List D) (s4 s5 s6 s7 : Sl) : L2.Tr.Env := [.ow o, .pu t, .pu f, .ow (.dct (ns.map Sum.inr) vs), s4, s5, s6, s7]
theorem snoc_map (ns : List Str) (x : Str) : ns.map (Sum.inr : Str → Key) ++ [.inr x] = (ns ++ [x]).map Sum.inr := by rw [List.map_append]; rfl
theorem b1_ok {o t f d : D} {ns : List Str} {vs : List D} {i : Nat} {p : Str × List Str} {s6 s7 : Sl} (hi : i < 3) (hd : PairIs d p) (hp : Told p) (hn : p.1 ∉ ns) (hv : vs.length < 1000) :
    iB1 (stI o t f ns vs (.pu (.leaf (.int i))) (.pu d) s6 s7) = some (.nx (stI o t f (ns ++ [p.1]) (vs ++ [.seq false (p.2.map sD)]) (.pu (.leaf (.int i))) (.pu d) s6 s7)) := by
  obtain ⟨b, b2, rfl⟩ := hd
  obtain ⟨x, xs⟩ := p
  unfold iB1
  rw [seq_if_f]
  · show ((some (D.leaf (.str x))).bind keyD).bind (fun k => if memK k (ns.map Sum.inr) = false ∧ vs.length < 1000 then some (Out.nx ((stI o t f ns vs _ _ s6 s7).set 3 (Sl.ow (.dct (ns.map Sum.inr ++ [k]) (vs ++ [.seq false (xs.map sD)]))))) else none) = _
    show (if memK (.inr x) (ns.map Sum.inr) = false ∧ vs.length < 1000 then some (Out.nx ((stI o t f ns vs _ _ s6 s7).set 3 (Sl.ow (.dct (ns.map Sum.inr ++ [.inr x]) (vs ++ [.seq false (xs.map sD)]))))) else none) = _
    rw [if_pos ⟨by rw [memK_str]; exact decide_eq_false hn, hv⟩, snoc_map]
    rfl
  · rw [orB_f, orB_f]
    · show some (xor false (memK (.inr x) (ns.map Sum.inr))) = _
      rw [memK_str, decide_eq_false hn]; rfl
    · rw [notB_ (b := true) (truB (by show fTold [.seq b [sD x, .seq b2 (xs.map sD)]] = _; exact told_good hp.n hp.v))]
      rfl
    · refine asB_ (b := false) ?_
      show some (bD (xor false (decide (V.int i = V.int 3)))) = _
      rw [decide_eq_false (fun z => by have := V.int.inj z; omega)]; rfl
theorem told_loop {o t f : D} {s6 s7 : Sl} : ∀ {ps : List (Str × List Str)} {ds : List D} {i : Nat} {ns : List Str} {vs : List D} {s4 s5 : Sl}, Paired PairIs ds ps → i + ps.length ≤ 3 → (∀ p ∈ ps, Told p) → (ns ++ ps.map (·.1)).Nodup → vs.length + ps.length < 1000 →
    ∃ t4 t5, loopF (tupT 2 (consT (setF 4) (consT (setF 5) nilT))) iB1 (enumL i ds) (stI o t f ns vs s4 s5 s6 s7) = some (.nx (stI o t f (ns ++ ps.map (·.1)) (vs ++ ps.map fun p => .seq false (p.2.map sD)) t4 t5 s6 s7))
  | [], ds, i, ns, vs, s4, s5, hd, _, _, _, _ => by
    cases hd
    exact ⟨s4, s5, by rw [List.map_nil, List.map_nil, List.append_nil, List.append_nil]; rfl⟩
  | p :: ps, ds, i, ns, vs, s4, s5, hd, hi, hg, hn, hv => by
    cases hd with
    | @cons d _ ds _ h1 h2 =>
      rw [List.length_cons] at hi hv
      rw [List.map_cons] at hn
      have hnp : p.1 ∉ ns := fun z => by
        have := (List.nodup_append.mp hn).2.2 _ z _ List.mem_cons_self
        exact this rfl
      have hn2 : ((ns ++ [p.1]) ++ ps.map (·.1)).Nodup := by rw [List.append_assoc]; exact hn
      obtain ⟨t4, t5, e⟩ := told_loop (o := o) (t := t) (f := f) (s6 := s6) (s7 := s7) (ps := ps) (ds := ds) (i := i + 1) (ns := ns ++ [p.1]) (vs := vs ++ [.seq false (p.2.map sD)]) (s4 := .pu (.leaf (.int i))) (s5 := .pu d) h2 (by omega) (fun q hq => hg q (List.mem_cons_of_mem _ hq)) hn2 (by rw [List.length_append, List.length_singleton]; omega)
      refine ⟨t4, t5, ?_⟩
      show ((iB1 (stI o t f ns vs (.pu (.leaf (.int i))) (.pu d) s6 s7)).bind fun o1 => match o1 with
        | .nx ρ2 => loopF (tupT 2 (consT (setF 4) (consT (setF 5) nilT))) iB1 (enumL (i + 1) ds) ρ2
        | .ct ρ2 => loopF (tupT 2 (consT (setF 4) (consT (setF 5) nilT))) iB1 (enumL (i + 1) ds) ρ2
        | .bk ρ2 => some (.nx ρ2)
        | .rt d => some (.rt d)) = _
      rw [b1_ok (by omega) h1 (hg p List.mem_cons_self) hnp (by omega)]
      show loopF _ _ _ _ = _
      rw [e, List.append_assoc, List.append_assoc]
      rfl
theorem b2_ok {o f : D} {bt : Bool} {td : List D} {ns : List Str} {vs : List D} {j : Nat} {x : Str} {s4 s5 : Sl} (hj : j < 2) (hl : td.length + j < 3) (hx : Nm x) (hn : x ∉ ns) (hv : vs.length < 1000) :
    iB2 (stI o (.seq bt td) f ns vs s4 s5 (.pu (.leaf (.int j))) (.pu (sD x))) = some (.nx (stI o (.seq bt td) f (ns ++ [x]) (vs ++ [.leaf .non]) (.pu (.leaf (.int (td.length + j)))) s5 (.pu (.leaf (.int j))) (.pu (sD x)))) := by
  unfold iB2
  rw [seq_nx (ρ2 := stI o (.seq bt td) f ns vs (.pu (.leaf (.int (td.length + j)))) s5 (.pu (.leaf (.int j))) (.pu (sD x)))]
  · rw [seq_if_f]
    · show (if memK (.inr x) (ns.map Sum.inr) = false ∧ vs.length < 1000 then some (Out.nx ((stI o (.seq bt td) f ns vs _ s5 _ _).set 3 (Sl.ow (.dct (ns.map Sum.inr ++ [.inr x]) (vs ++ [.leaf .non]))))) else none) = _
      rw [if_pos ⟨by rw [memK_str]; exact decide_eq_false hn, hv⟩, snoc_map]
      rfl
    · rw [orB_f, orB_f, orB_f]
      · show some (xor false (memK (.inr x) (ns.map Sum.inr))) = _
        rw [memK_str, decide_eq_false hn]; rfl
      · rw [notB_ (b := true) (truB (by show fIsN [sD x] = _; exact n_good hx))]
        rfl
      · refine asB_ (b := false) ?_
        show some (bD (xor false (decide (V.int j = V.int 2)))) = _
        rw [decide_eq_false (fun z => by have := V.int.inj z; omega)]; rfl
      · refine asB_ (b := false) ?_
        show some (bD (xor false (decide (V.int (td.length + j) = V.int 3)))) = _
        rw [decide_eq_false (fun z => by have := V.int.inj z; omega)]; rfl
  · rfl
theorem free_loop {o f : D} {bt : Bool} {td : List D} : ∀ {xs : List Str} {j : Nat} {ns : List Str} {vs : List D} {s4 s5 s6 s7 : Sl}, j + xs.length ≤ 2 → td.length + j + xs.length ≤ 3 → (∀ x ∈ xs, Nm x) → (ns ++ xs).Nodup → vs.length + xs.length < 1000 →
    ∃ t4 t6 t7, loopF (tupT 2 (consT (setF 6) (consT (setF 7) nilT))) iB2 (enumL j (xs.map sD)) (stI o (.seq bt td) f ns vs s4 s5 s6 s7) = some (.nx (stI o (.seq bt td) f (ns ++ xs) (vs ++ xs.map fun _ => .leaf .non) t4 s5 t6 t7))
  | [], j, ns, vs, s4, s5, s6, s7, _, _, _, _, _ => ⟨s4, s6, s7, by rw [List.map_nil, List.map_nil, List.append_nil, List.append_nil]; rfl⟩
  | x :: xs, j, ns, vs, s4, s5, s6, s7, hj, hl, hg, hn, hv => by
    rw [List.length_cons] at hj hl hv
    have hnp : x ∉ ns := fun z => by
      have := (List.nodup_append.mp hn).2.2 _ z _ List.mem_cons_self
      exact this rfl
    have hn2 : ((ns ++ [x]) ++ xs).Nodup := by rw [List.append_assoc]; exact hn
    obtain ⟨t4, t6, t7, e⟩ := free_loop (o := o) (f := f) (bt := bt) (td := td) (xs := xs) (j := j + 1) (ns := ns ++ [x]) (vs := vs ++ [.leaf .non]) (s4 := .pu (.leaf (.int (td.length + j)))) (s5 := s5) (s6 := .pu (.leaf (.int j))) (s7 := .pu (sD x)) (by omega) (by omega) (fun q hq => hg q (List.mem_cons_of_mem _ hq)) hn2 (by rw [List.length_append, List.length_singleton]; omega)
    refine ⟨t4, t6, t7, ?_⟩
    show ((iB2 (stI o (.seq bt td) f ns vs s4 s5 (.pu (.leaf (.int j))) (.pu (sD x)))).bind fun o1 => match o1 with
      | .nx ρ2 => loopF (tupT 2 (consT (setF 6) (consT (setF 7) nilT))) iB2 (enumL (j + 1) (xs.map sD)) ρ2
      | .ct ρ2 => loopF (tupT 2 (consT (setF 6) (consT (setF 7) nilT))) iB2 (enumL (j + 1) (xs.map sD)) ρ2
      | .bk ρ2 => some (.nx ρ2)
      | .rt d => some (.rt d)) = _
    rw [b2_ok (by omega) (by omega) (hg x List.mem_cons_self) hnp (by omega)]
    show loopF _ _ _ _ = _
    rw [e, List.append_assoc, List.append_assoc]
    rfl
/-- the columns of told pairs and free names -/
def colV (C : Addr) (ps : List (Str × List Str)) (xs : List Str) : D := .obj C ["_values"] [.dct ((ps.map (·.1) ++ xs).map Sum.inr) ((ps.map fun p => .seq false (p.2.map sD)) ++ xs.map fun _ => .leaf .non)]
structure Cols (ps : List (Str × List Str)) (xs : List Str) : Prop where
  t : ∀ p ∈ ps, Told p
  f : ∀ x ∈ xs, Nm x
  nd : (ps.map (·.1) ++ xs).Nodup
  l3 : ps.length + xs.length ≤ 3
  l2 : xs.length ≤ 2
  l1 : 1 ≤ ps.length + xs.length
theorem init_ok {C : Addr} {bt bf : Bool} {ds : List D} {ps : List (Str × List Str)} {xs : List Str} (h : Cols ps xs) (hd : Paired PairIs ds ps) : (fInit C [.seq bt ds, .seq bf (xs.map sD)]).map (fun r => D.obj C r.1 r.2) = some (colV C ps xs) := by
  have hl := Paired.length hd
  have l1 := h.l1
  have l2 := h.l2
  have l3 := h.l3
  obtain ⟨t4, t5, e1⟩ := told_loop (o := .obj C [] []) (t := .seq bt ds) (f := .seq bf (xs.map sD)) (s6 := .un) (s7 := .un) (ps := ps) (ds := ds) (i := 0) (ns := []) (vs := []) (s4 := .un) (s5 := .un) hd (by omega) h.t (by rw [List.nil_append]; exact (List.nodup_append.mp h.nd).1) (by rw [List.length_nil]; omega)
  rw [List.nil_append, List.nil_append] at e1
  obtain ⟨u4, u6, u7, e2⟩ := free_loop (o := .obj C [] []) (f := .seq bf (xs.map sD)) (bt := bt) (td := ds) (xs := xs) (j := 0) (ns := ps.map (·.1)) (vs := ps.map fun p => .seq false (p.2.map sD)) (s4 := t4) (s5 := t5) (s6 := .un) (s7 := .un) (by omega) (by omega) h.f h.nd (by rw [List.length_map]; omega)
  have e : FInit C (envI 8 C [.seq bt ds, .seq bf (xs.map sD)]) = some (.nx [.ow (.obj C ["_values"] [.dct ((ps.map (·.1) ++ xs).map Sum.inr) ((ps.map fun p => .seq false (p.2.map sD)) ++ xs.map fun _ => .leaf .non)]), .pu (.seq bt ds), .pu (.seq bf (xs.map sD)), .pu (.dct ((ps.map (·.1) ++ xs).map Sum.inr) ((ps.map fun p => .seq false (p.2.map sD)) ++ xs.map fun _ => .leaf .non)), u4, t5, u6, u7]) := by
    unfold FInit
    rw [seq_nx (ρ2 := stI (.obj C [] []) (.seq bt ds) (.seq bf (xs.map sD)) [] [] .un .un .un .un) rfl]
    refine (seq_nx (ρ2 := stI (.obj C [] []) (.seq bt ds) (.seq bf (xs.map sD)) (ps.map (·.1)) (ps.map fun p => .seq false (p.2.map sD)) t4 t5 .un .un) (by exact e1)).trans ?_
    refine (seq_nx (ρ2 := stI (.obj C [] []) (.seq bt ds) (.seq bf (xs.map sD)) (ps.map (·.1) ++ xs) ((ps.map fun p => .seq false (p.2.map sD)) ++ xs.map fun _ => .leaf .non) u4 t5 u6 u7) (by exact e2)).trans ?_
    rw [seq_if_f]
    · show (if C = C ∧ 0 < 100 then _ else none) = _
      rw [if_pos ⟨rfl, by decide⟩]
      rfl
    · refine notB_ (b := true) ?_
      show some (!((ps.map fun p => D.seq false (p.2.map sD)) ++ xs.map fun _ => D.leaf .non).isEmpty) = _
      cases ps with
      | cons p ps => rfl
      | nil =>
        cases xs with
        | cons x xs => rfl
        | nil => simp at l1
  show Option.map _ ((FInit C (envI 8 C [.seq bt ds, .seq bf (xs.map sD)])).bind _) = _
  rw [e]
  show Option.map _ (if C = C then _ else none) = _
  rw [if_pos rfl]
  rfl
end L2.K1

namespace L2.K1
open PySem PySem.Spec PyProof.Rows L2.Tr
/-! what columns can do -/
def keysOf (ps : List (Str × List Str)) (xs : List Str) : List Str := ps.map (·.1) ++ xs
def valsOf (ps : List (Str × List Str)) (xs : List Str) : List D := (ps.map fun p => D.seq false (p.2.map sD)) ++ xs.map fun _ => D.leaf .non
theorem keys_len {ps : List (Str × List Str)} {xs : List Str} : (keysOf ps xs).length = ps.length + xs.length := by unfold keysOf; rw [List.length_append, List.length_map]
theorem vals_len {ps : List (Str × List Str)} {xs : List Str} : (valsOf ps xs).length = ps.length + xs.length := by unfold valsOf; rw [List.length_append, List.length_map, List.length_map]
theorem Cols.nm {ps : List (Str × List Str)} {xs : List Str} (h : Cols ps xs) : ∀ x ∈ keysOf ps xs, Nm x := fun x hx => by
  rcases List.mem_append.mp hx with q | q
  · obtain ⟨p, hp, rfl⟩ := List.mem_map.mp q
    exact (h.t p hp).n
  · exact h.f x q
theorem isW_len {x : Str} (h : isW x = true) : x.length ≤ 8 := by
  unfold isW at h
  rw [Bool.and_eq_true, Bool.and_eq_true] at h
  have := of_decide_eq_true h.2.1
  omega
theorem ok_keys {C : Addr} {ps : List (Str × List Str)} {xs : List Str} (h : Cols ps xs) : ((keysOf ps xs).map (Sum.inr : Str → Key)).all okKey = true := by
  rw [List.all_eq_true]
  intro k hk
  obtain ⟨x, hx, rfl⟩ := List.mem_map.mp hk
  exact decide_eq_true (by have := isW_len (h.nm x hx).w; omega)
theorem fld_ok {C : Addr} {ps : List (Str × List Str)} {xs : List Str} {ρ : L2.Tr.Env} {i : Nat} (h : ρ[i]? = some (.pu (colV C ps xs))) : fldF C "_values" (atP i) ρ = some (.dct ((keysOf ps xs).map Sum.inr) (valsOf ps xs)) := by
  unfold fldF atP
  rw [h]
  show (if C = C then getS ["_values"] [_] "_values" else none) = _
  rw [if_pos rfl]
  rfl
theorem getK_app {k : Key} : ∀ {ks : List Key} {vs : List D} {i : Nat} {v : D}, ks.Nodup → ks[i]? = some k → vs[i]? = some v → getK ks vs k = some v
  | [], vs, i, v, _, h, _ => by simp at h
  | k0 :: ks, [], i, v, _, _, h => by simp at h
  | k0 :: ks, v0 :: vs, 0, v, _, h1, h2 => by
    cases h1; cases h2
    exact if_pos rfl
  | k0 :: ks, v0 :: vs, i + 1, v, hn, h1, h2 => by
    have h1 : ks[i]? = some k := by simpa using h1
    have h2 : vs[i]? = some v := by simpa using h2
    have hne : ¬ k0 = k := fun z => (List.nodup_cons.mp hn).1 (z ▸ List.mem_of_getElem? h1)
    show (if k0 = k then some v0 else getK ks vs k) = _
    rw [if_neg hne]
    exact getK_app (List.nodup_cons.mp hn).2 h1 h2
theorem nodup_inr {xs : List Str} (h : xs.Nodup) : (xs.map (Sum.inr : Str → Key)).Nodup := by
  induction xs with
  | nil => exact List.nodup_nil
  | cons x xs ih =>
    rw [List.map_cons, List.nodup_cons]
    obtain ⟨h1, h2⟩ := List.nodup_cons.mp h
    refine ⟨fun z => ?_, ih h2⟩
    obtain ⟨y, hy, e⟩ := List.mem_map.mp z
    exact h1 (Sum.inr.inj e ▸ hy)
/-! is_row -/
theorem plain_strs : ∀ xs : List Str, plainDs (xs.map sD) = true
  | [] => rfl
  | x :: xs => by show (true && plainDs (xs.map sD)) = true; rw [plain_strs xs]; rfl
theorem plain_app : ∀ {as bs : List D}, plainDs as = true → plainDs bs = true → plainDs (as ++ bs) = true
  | [], bs, _, h => h
  | a :: as, bs, h1, h2 => by
    have h1 : (plainD a && plainDs as) = true := h1
    rw [Bool.and_eq_true] at h1
    show (plainD a && plainDs (as ++ bs)) = true
    rw [h1.1, plain_app h1.2 h2]; rfl
theorem plain_vals {ps : List (Str × List Str)} {xs : List Str} : plainDs (valsOf ps xs) = true := by
  refine plain_app ?_ ?_
  · induction ps with
    | nil => rfl
    | cons p ps ih => show (plainDs (p.2.map sD) && plainDs _) = true; rw [plain_strs, ih]; rfl
  · induction xs with
    | nil => rfl
    | cons p ps ih => show (true && plainDs _) = true; rw [ih]; rfl
end L2.K1

namespace L2.K1
open PySem PySem.Spec PyProof.Rows L2.Tr
/-! == of columns -/
abbrev Col := Str × Option (List Str)
def vD : Option (List Str) → D
  | none => .leaf .non
  | some xs => .seq false (xs.map sD)
def csOf (ps : List (Str × List Str)) (xs : List Str) : List Col := (ps.map fun p => (p.1, some p.2)) ++ xs.map fun x => (x, none)
def itemD (c : Col) : D := .seq false [sD c.1, vD c.2]
theorem items_of {ps : List (Str × List Str)} {xs : List Str} : (((keysOf ps xs).map (Sum.inr : Str → Key)).zip (valsOf ps xs)).map (fun p => D.seq false [keyV p.1, p.2]) = (csOf ps xs).map itemD := by
  unfold keysOf valsOf csOf
  rw [List.map_append, List.zip_append (by rw [List.length_map, List.length_map, List.length_map]), List.map_append, List.map_append]
  congr 1
  · induction ps with
    | nil => rfl
    | cons p ps ih => rw [List.map_cons, List.map_cons, List.map_cons, List.zip_cons_cons, List.map_cons, List.map_cons, List.map_cons, ih]; rfl
  · induction xs with
    | nil => rfl
    | cons p ps ih => rw [List.map_cons, List.map_cons, List.zip_cons_cons, List.map_cons, List.map_cons, List.map_cons, ih]; rfl
def valP : Option (List Str) → PyData
  | none => .none
  | some xs => .tuple (xs.map .str)
def itemP (c : Col) : PyData := .tuple [.str c.1, valP c.2]
theorem pyDs_str : ∀ xs : List Str, pyDs (xs.map sD) = some (xs.map .str)
  | [] => by simp [pyDs]
  | x :: xs => by rw [List.map_cons, pyDs, pyDs_str xs]; simp [pyD]
theorem pyD_val : ∀ o : Option (List Str), pyD (vD o) = some (valP o)
  | none => by simp [vD, valP, pyD]
  | some xs => by
    show pyD (.seq false (xs.map sD)) = some (.tuple (xs.map .str))
    rw [pyD, pyDs_str]; rfl
theorem pyD_item (c : Col) : pyD (itemD c) = some (itemP c) := by
  show pyD (.seq false [sD c.1, vD c.2]) = some (.tuple [.str c.1, valP c.2])
  rw [pyD, pyDs, pyDs, pyDs, pyD_val]
  simp [pyD]
theorem pyD_items : ∀ cs : List Col, pyDs (cs.map itemD) = some (cs.map itemP)
  | [] => by simp [pyDs]
  | c :: cs => by rw [List.map_cons, pyDs, pyDs_items' cs, pyD_item]; rfl
where pyDs_items' : ∀ cs : List Col, pyDs (cs.map itemD) = some (cs.map itemP)
  | [] => by simp [pyDs]
  | c :: cs => by rw [List.map_cons, pyDs, pyDs_items' cs, pyD_item]; rfl
theorem eqv_strs : ∀ xs ys : List Str, PyData.eqvAll (xs.map .str) (ys.map .str) = decide (xs = ys)
  | [], [] => rfl
  | [], y :: ys => rfl
  | x :: xs, [] => rfl
  | x :: xs, y :: ys => by
    rw [List.map_cons, List.map_cons, PyData.eqvAll, eqv_strs xs ys, PyData.eqv]
    by_cases h1 : x = y <;> by_cases h2 : xs = ys <;> simp [h1, h2]
theorem eqv_val : ∀ a b : Option (List Str), PyData.eqv (valP a) (valP b) = decide (a = b)
  | none, none => rfl
  | none, some _ => rfl
  | some _, none => rfl
  | some xs, some ys => by
    show PyData.eqv (.tuple (xs.map .str)) (.tuple (ys.map .str)) = _
    rw [PyData.eqv, eqv_strs]
    by_cases h : xs = ys <;> simp [h]
theorem eqv_items : ∀ cs ds : List Col, PyData.eqvAll (cs.map itemP) (ds.map itemP) = decide (cs = ds)
  | [], [] => rfl
  | [], y :: ys => rfl
  | x :: xs, [] => rfl
  | x :: xs, y :: ys => by
    rw [List.map_cons, List.map_cons, PyData.eqvAll, eqv_items xs ys]
    show (PyData.eqv (.tuple [.str x.1, valP x.2]) (.tuple [.str y.1, valP y.2]) && _) = _
    rw [PyData.eqv, PyData.eqvAll, PyData.eqvAll, PyData.eqvAll, PyData.eqv, eqv_val]
    obtain ⟨x1, x2⟩ := x
    obtain ⟨y1, y2⟩ := y
    by_cases h1 : x1 = y1 <;> by_cases h2 : x2 = y2 <;> by_cases h3 : xs = ys <;> simp [h1, h2, h3]
theorem isW_ok {x : Str} (h : isW x = true) : PyData.strOk x = true := by
  unfold isW at h
  rw [Bool.and_eq_true, Bool.and_eq_true, List.all_eq_true] at h
  have abc_lo : ∀ c ∈ abc.cps.toList, c < 0x110000 := by decide +kernel
  unfold PyData.strOk
  rw [← Array.all_toList, List.all_eq_true]
  exact fun c hc => decide_eq_true (abc_lo c (of_decide_eq_true (h.2.2 c hc)))
theorem lay_strs : ∀ {xs : List Str}, (∀ x ∈ xs, isW x = true) → PyData.canLayAll0 (xs.map .str) = true ∧ PyData.depthAll (xs.map .str) = 0
  | [], _ => ⟨rfl, rfl⟩
  | x :: xs, h => by
    obtain ⟨h1, h2⟩ := lay_strs fun y hy => h y (List.mem_cons_of_mem _ hy)
    refine ⟨?_, ?_⟩
    · rw [List.map_cons, PyData.canLayAll0, PyData.canLay0, isW_ok (h x List.mem_cons_self), h1]; rfl
    · rw [List.map_cons, PyData.depthAll, h2, PyData.depth]; rfl
structure ColOk (c : Col) : Prop where
  n : isW c.1 = true
  v : ∀ xs, c.2 = some xs → ∀ x ∈ xs, isW x = true
theorem lay_item {c : Col} (h : ColOk c) : PyData.canLay0 (itemP c) = true ∧ PyData.depth (itemP c) ≤ 2 := by
  obtain ⟨n, o⟩ := c
  have a : (PyData.str n).canLay0 = true := by rw [PyData.canLay0]; exact isW_ok h.n
  have z : PyData.canLay0 PyData.none = true := by rw [PyData.canLay0]
  cases o with
  | none =>
    refine ⟨?_, ?_⟩
    · show PyData.canLay0 (.tuple [.str n, .none]) = true
      rw [PyData.canLay0, PyData.canLayAll0, PyData.canLayAll0, PyData.canLayAll0, a, z]; rfl
    · show PyData.depth (.tuple [.str n, .none]) ≤ 2
      have d1 : (PyData.str n).depth = 0 := by rw [PyData.depth]
      have d2 : PyData.depth PyData.none = 0 := by rw [PyData.depth]
      rw [PyData.depth, PyData.depthAll, PyData.depthAll, PyData.depthAll, d1, d2]; decide
  | some xs =>
    obtain ⟨h1, h2⟩ := lay_strs (h.v xs rfl)
    refine ⟨?_, ?_⟩
    · show PyData.canLay0 (.tuple [.str n, .tuple (xs.map .str)]) = true
      rw [PyData.canLay0, PyData.canLayAll0, PyData.canLayAll0, PyData.canLayAll0, a, PyData.canLay0, h1]; rfl
    · show PyData.depth (.tuple [.str n, .tuple (xs.map .str)]) ≤ 2
      have d1 : (PyData.str n).depth = 0 := by rw [PyData.depth]
      rw [PyData.depth, PyData.depthAll, PyData.depthAll, PyData.depthAll, d1, PyData.depth, h2]; decide
theorem lay_items : ∀ {cs : List Col}, (∀ c ∈ cs, ColOk c) → PyData.canLayAll0 (cs.map itemP) = true ∧ PyData.depthAll (cs.map itemP) ≤ 2
  | [], _ => ⟨rfl, by decide⟩
  | c :: cs, h => by
    obtain ⟨h1, h2⟩ := lay_items fun y hy => h y (List.mem_cons_of_mem _ hy)
    obtain ⟨h3, h4⟩ := lay_item (h c List.mem_cons_self)
    refine ⟨?_, ?_⟩
    · rw [List.map_cons, PyData.canLayAll0, h3, h1]; rfl
    · rw [List.map_cons, PyData.depthAll]; omega
theorem shaped_items {cs : List Col} (h : ∀ c ∈ cs, ColOk c) : SeqAt.shaped (.list (cs.map itemP)) = true := by
  obtain ⟨h1, h2⟩ := lay_items h
  unfold SeqAt.shaped
  rw [PyData.canLay0, h1, PyData.depth, decide_eq_true (by omega)]; rfl
theorem Cols.ok {ps : List (Str × List Str)} {xs : List Str} (h : Cols ps xs) : ∀ c ∈ csOf ps xs, ColOk c := fun c hc => by
  rcases List.mem_append.mp hc with q | q
  · obtain ⟨p, hp, rfl⟩ := List.mem_map.mp q
    exact ⟨(h.t p hp).n.w, fun xs e => by cases e; exact (h.t p hp).v.ws⟩
  · obtain ⟨p, hp, rfl⟩ := List.mem_map.mp q
    exact ⟨(h.f p hp).w, fun xs e => by cases e⟩
theorem eq_ok {C : Addr} {ps ps' : List (Str × List Str)} {xs xs' : List Str} (h : Cols ps xs) (h' : Cols ps' xs') : fEq C [colV C ps xs, colV C ps' xs'] = some (bD (decide (csOf ps xs = csOf ps' xs'))) := by
  refine run_rt (ret_f ?_)
  show (andF _ _) [.pu (colV C ps xs), .pu (colV C ps' xs')] = _
  rw [and_t (by show ((if C = C then some true else none : Option Bool)).map bD = _; rw [if_pos rfl]; rfl)]
  have it : ∀ {i : Nat} {ps : List (Str × List Str)} {xs : List Str} {ρ : L2.Tr.Env}, Cols ps xs → ρ[i]? = some (.pu (colV C ps xs)) → mapS (itemsO (fldF C "_values" (atP i))) ρ = some (.seq true ((csOf ps xs).map itemD)) := fun {i ps xs ρ} h e => by
    refine maps_ ?_
    unfold itemsO
    rw [fld_ok e]
    show (if ((keysOf ps xs).map (Sum.inr : Str → Key)).all okKey = true then _ else none) = _
    rw [if_pos (ok_keys (C := C) h), items_of]
  rw [bin_2 (it h rfl) (it h' rfl)]
  unfold eqP
  rw [pyD, pyD, pyD_items, pyD_items]
  show (if SeqAt.shaped (.list ((csOf ps xs).map itemP)) = true ∧ SeqAt.shaped (.list ((csOf ps' xs').map itemP)) = true then some (bD (xor false (PyData.eqv (.list ((csOf ps xs).map itemP)) (.list ((csOf ps' xs').map itemP))))) else none) = _
  rw [if_pos ⟨shaped_items h.ok, shaped_items h'.ok⟩, PyData.eqv, eqv_items, Bool.false_xor]
theorem eq_seq {C : Addr} {o : D} (b : Bool) (ds : List D) : fEq C [o, .seq b ds] = some (bD false) := by
  refine run_rt (ret_f ?_)
  show (andF _ _) [.pu o, .pu (.seq b ds)] = _
  refine and_f ?_
  cases b <;> rfl
theorem eq_int {C : Addr} {o : D} (i : Int) : fEq C [o, .leaf (.int i)] = some (bD false) := by
  show runF nEq.length (FEq C) [o, .leaf (.int i)] = _
  refine run_rt (ret_f ?_)
  show (andF _ _) [.pu o, .pu (.leaf (.int i))] = _
  exact and_f rfl
end L2.K1

namespace L2.K1
open PySem PySem.Spec PyProof.Rows L2.Tr
/-! the law's same -/
theorem same_str (g : List D → Option D) (x : Str) : fSame g [sD x, sD x] = some (bD true) := by
  show runF nSame.length (FSame g) [sD x, sD x] = _
  refine run_rt ?_
  show seqF _ _ [.pu (sD x), .pu (sD x), .un, .un] = _
  rw [seq_if_f rfl, seq_if_f rfl]
  refine ret_f ?_
  rw [and_t]
  · rfl
  · show some (bD (xor false (decide (V.str x = V.str x)))) = _
    rw [decide_eq_true rfl]; rfl
theorem same_non (g : List D → Option D) : fSame g [.leaf .non, .leaf .non] = some (bD true) := rfl
theorem same_strs (g : List D → Option D) (b : Bool) {xs : List Str} (hl : xs.length ≤ 100) : fSame (fSame g) [.seq b (xs.map sD), .seq b (xs.map sD)] = some (bD true) := by
  show runF nSame.length (FSame (fSame g)) [.seq b (xs.map sD), .seq b (xs.map sD)] = _
  refine run_rt ?_
  show seqF _ _ [.pu (.seq b (xs.map sD)), .pu (.seq b (xs.map sD)), .un, .un] = _
  have t1 : truF (isF isSeq (atP 1)) [.pu (.seq b (xs.map sD)), .pu (.seq b (xs.map sD)), .un, .un] = some true := by cases b <;> rfl
  refine seq_if_t t1 ?_
  rw [seq_if_f]
  · refine ret_f ?_
    rw [and_t]
    · have c1 : lcF [2, 3] (zipF (atP 0) (atP 1)) (tupT 2 (consT (setF 2) (consT (setF 3) nilT))) yesF (app1 (fSame g) (consD (atP 2) (consD (atP 3) nilD))) [.pu (.seq b (xs.map sD)), .pu (.seq b (xs.map sD)), .un, .un] = some ((xs.map fun x => D.seq false [sD x, sD x]).map fun _ => bD true) := by
        have hz : zipL (xs.map sD) (xs.map sD) = xs.map fun x => D.seq false [sD x, sD x] := by
          unfold zipL
          induction xs with
          | nil => rfl
          | cons x xs ih => rw [List.map_cons, List.zip_cons_cons, List.map_cons, ih (by rw [List.length_cons] at hl; omega) (by cases b <;> rfl)]; rfl
        show ((if b = b then some (zipL (xs.map sD) (xs.map sD)) else none).bind fun ds => if ds.length ≤ Lim then compF _ _ _ ds _ else none) = _
        rw [if_pos rfl, Option.bind_some, hz, if_pos (by rw [List.length_map]; have : Lim = 5000 := rfl; omega)]
        refine comp_map fun d hd => ?_
        obtain ⟨x, hx, rfl⟩ := List.mem_map.mp hd
        refine ⟨[.pu (.seq b (xs.map sD)), .pu (.seq b (xs.map sD)), .pu (sD x), .pu (sD x)], rfl, rfl, ?_⟩
        rw [app_2 (d := sD x) (e := sD x) rfl rfl]
        exact same_str g x
      rw [app_1 (maps_ c1), all_map (fun _ => true), List.all_eq_true.mpr fun _ _ => rfl]
    · show some (bD (xor false (decide (V.int (xs.map sD).length = V.int (xs.map sD).length)))) = _
      rw [decide_eq_true rfl]; rfl
  · cases b <;> rfl
/-! a world -/
def wD (ps : List (Str × List Str)) (xs named : List Str) : D := .dct [.inr "names", .inr "values", .inr "named"] [.seq true ((keysOf ps xs).map sD), .seq true (valsOf ps xs), .seq true (named.map sD)]
theorem w_names {ps : List (Str × List Str)} {xs named : List Str} : dgD (wD ps xs named) (.leaf (.str "names")) = some (.seq true ((keysOf ps xs).map sD)) := rfl
theorem w_values {ps : List (Str × List Str)} {xs named : List Str} : dgD (wD ps xs named) (.leaf (.str "values")) = some (.seq true (valsOf ps xs)) := rfl
theorem w_named {ps : List (Str × List Str)} {xs named : List Str} : dgD (wD ps xs named) (.leaf (.str "named")) = some (.seq true (named.map sD)) := rfl
def pairsOf (ps : List (Str × List Str)) (xs : List Str) : List D := (csOf ps xs).map itemD
theorem zip_w {ps : List (Str × List Str)} {xs : List Str} : zipL ((keysOf ps xs).map sD) (valsOf ps xs) = pairsOf ps xs := by
  unfold pairsOf
  rw [← items_of]
  unfold zipL
  rw [List.zip_map_left, List.zip_map_left, List.map_map, List.map_map]
  rfl
end L2.K1

namespace L2.K1
open PySem PySem.Spec PyProof.Rows L2.Tr
theorem lc_ {vs : List Nat} {ψ : L2.Tr.Env → Option (List D)} {θ : D → L2.Tr.Env → Option L2.Tr.Env} {χ : L2.Tr.Env → Option Bool} {φ : L2.Tr.Env → Option D} {ρ : L2.Tr.Env} {ds : List D} (h : ψ ρ = some ds) (hl : ds.length ≤ Lim) : lcF vs ψ θ χ φ ρ = compF θ χ φ ds (wipeE ρ vs) := by
  unfold lcF
  rw [h, Option.bind_some, if_pos hl]
theorem add_lst {xs ys : List D} (h : xs.length + ys.length ≤ Lim) : addD (.seq true xs) (.seq true ys) = some (.seq true (xs ++ ys)) := by
  show ((none : Option D).or ((none : Option D).or ((Option.map (D.seq true) (if xs.length + ys.length ≤ Lim then some (xs ++ ys) else none)).or _))) = _
  rw [if_pos h]; rfl
theorem add_tup {xs ys : List D} (h : xs.length + ys.length ≤ Lim) : addD (.seq false xs) (.seq false ys) = some (.seq false (xs ++ ys)) := by
  show ((none : Option D).or ((none : Option D).or ((none : Option D).or (if xs.length + ys.length ≤ Lim then some (.seq false (xs ++ ys)) else none)))) = _
  rw [if_pos h]; rfl
def letv : Str := "abcdefghijklmnopqrstuv"
def candL : List Str := letv.cps.toList.map fun c => ("zz" : Str) ++ (⟨#[c]⟩ : Str)
def knownL (ps : List (Str × List Str)) (xs named : List Str) : List Str := (keysOf ps xs ++ named) ++ ps.flatMap (·.2)
def spareL (ps : List (Str × List Str)) (xs named : List Str) : List Str := candL.filter fun x => !decide (x ∈ knownL ps xs named)
def spB : L2.Tr.Env → Option Out := asgF (bin2 addD (atP 1) (mapS (app1 lstA (consD (orF (atP 2) (mapS (lstDisp nilD))) nilD)))) (setF 1)
theorem spB_ok {w : D} {kn : List Str} {o : Option (List Str)} {s3 s4 : Sl} (ho : ∀ xs, o = some xs → xs ≠ [] ∧ kn.length + xs.length ≤ Lim) (hk : kn.length ≤ Lim) :
    spB [.pu w, .pu (.seq true (kn.map sD)), .pu (vD o), s3, s4] = some (.nx [.pu w, .pu (.seq true ((kn ++ o.getD []).map sD)), .pu (vD o), s3, s4]) := by
  have e : bin2 addD (atP 1) (mapS (app1 lstA (consD (orF (atP 2) (mapS (lstDisp nilD))) nilD))) [.pu w, .pu (.seq true (kn.map sD)), .pu (vD o), s3, s4] = some (.seq true ((kn ++ o.getD []).map sD)) := by
    have a : mapS (app1 lstA (consD (orF (atP 2) (mapS (lstDisp nilD))) nilD)) [.pu w, .pu (.seq true (kn.map sD)), .pu (vD o), s3, s4] = some (.seq true ((o.getD []).map sD)) := by
      refine maps_ ?_
      cases o with
      | none => rfl
      | some xs =>
        rw [app_1 (d := .seq false (xs.map sD))]
        · rfl
        · unfold orF
          show ((some (D.seq false (xs.map sD))).bind fun x => (truD x).bind fun k => if k = true then some x else _) = _
          have : truD (.seq false (xs.map sD)) = some true := by
            cases xs with
            | nil => exact absurd rfl (ho [] rfl).1
            | cons x xs => rfl
          rw [Option.bind_some, this]; rfl
    rw [bin_2 (d := .seq true (kn.map sD)) rfl a, add_lst, List.map_append]
    rw [List.length_map, List.length_map]
    cases o with
    | none => simpa using hk
    | some xs => exact (ho xs rfl).2
  unfold spB asgF
  rw [e]; rfl
theorem spare_loop {w : D} {s3 s4 : Sl} : ∀ {os : List (Option (List Str))} {kn : List Str} {s2 : Sl}, (∀ o ∈ os, ∀ xs, o = some xs → xs ≠ [] ∧ xs.length ≤ 3) → kn.length + 3 * os.length ≤ 1000 →
    ∃ t2, loopF (setF 2) spB (os.map vD) [.pu w, .pu (.seq true (kn.map sD)), s2, s3, s4] = some (.nx [.pu w, .pu (.seq true ((kn ++ os.flatMap fun o => o.getD []).map sD)), t2, s3, s4])
  | [], kn, s2, _, _ => ⟨s2, by rw [List.flatMap_nil, List.append_nil]; rfl⟩
  | o :: os, kn, s2, h, hl => by
    rw [List.length_cons] at hl
    have ho := h o List.mem_cons_self
    have : Lim = 5000 := rfl
    have hlo : (o.getD []).length ≤ 3 := by
      cases o with
      | none => simp
      | some xs => exact (ho xs rfl).2
    obtain ⟨t2, e⟩ := spare_loop (w := w) (s3 := s3) (s4 := s4) (os := os) (kn := kn ++ o.getD []) (s2 := .pu (vD o)) (fun o' h' => h o' (List.mem_cons_of_mem _ h')) (by rw [List.length_append]; omega)
    refine ⟨t2, ?_⟩
    show ((spB [.pu w, .pu (.seq true (kn.map sD)), .pu (vD o), s3, s4]).bind fun o1 => match o1 with
      | .nx ρ2 => loopF (setF 2) spB (os.map vD) ρ2
      | .ct ρ2 => loopF (setF 2) spB (os.map vD) ρ2
      | .bk ρ2 => some (.nx ρ2)
      | .rt d => some (.rt d)) = _
    rw [spB_ok (s3 := s3) (s4 := s4) (fun xs e => ⟨(ho xs e).1, by have := (ho xs e).2; omega⟩) (by omega)]
    show loopF _ _ _ _ = _
    rw [e, List.flatMap_cons, List.append_assoc]
def osOf (ps : List (Str × List Str)) (xs : List Str) : List (Option (List Str)) := (ps.map fun p => some p.2) ++ xs.map fun _ => none
theorem vals_os {ps : List (Str × List Str)} {xs : List Str} : valsOf ps xs = (osOf ps xs).map vD := by
  unfold valsOf osOf
  rw [List.map_append, List.map_map, List.map_map]
  rfl
theorem os_flat {ps : List (Str × List Str)} {xs : List Str} : ((osOf ps xs).flatMap fun o => o.getD []) = ps.flatMap (·.2) := by
  unfold osOf
  rw [List.flatMap_append]
  have e1 : ((ps.map fun p => some p.2).flatMap fun (o : Option (List Str)) => o.getD []) = ps.flatMap (·.2) := by
    induction ps with
    | nil => rfl
    | cons p ps ih => rw [List.map_cons, List.flatMap_cons, ih, List.flatMap_cons]; rfl
  have e2 : ((xs.map fun _ => (none : Option (List Str))).flatMap fun o => o.getD []) = [] := by
    induction xs with
    | nil => rfl
    | cons p ps ih => rw [List.map_cons, List.flatMap_cons, ih]; rfl
  rw [e1, e2, List.append_nil]
theorem os_good {ps : List (Str × List Str)} {xs : List Str} (h : Cols ps xs) : ∀ o ∈ osOf ps xs, ∀ ys, o = some ys → ys ≠ [] ∧ ys.length ≤ 3 := fun o ho ys e => by
  rcases List.mem_append.mp ho with q | q
  · obtain ⟨p, hp, rfl⟩ := List.mem_map.mp q
    cases e
    have v := (h.t p hp).v
    exact ⟨fun z => by have := v.lo; rw [z] at this; simp at this, v.hi⟩
  · obtain ⟨p, hp, rfl⟩ := List.mem_map.mp q
    cases e
theorem os_len {ps : List (Str × List Str)} {xs : List Str} : (osOf ps xs).length = ps.length + xs.length := by
  unfold osOf
  rw [List.length_append, List.length_map, List.length_map]
theorem cands {ρ : L2.Tr.Env} {w k s2 s3 s4 : Sl} (e : ρ = [w, k, s2, s3, s4]) : lcF [4] (strsF (kD (.leaf (.str "abcdefghijklmnopqrstuv")))) (setF 4) yesF (bin2 addD (kD (.leaf (.str "zz"))) (atP 4)) ρ = some (candL.map sD) := by
  subst e
  rw [lc_ (ds := L2.Tr.signs letv) rfl (by decide +kernel)]
  rw [comp_map (g := fun d => match d with
    | .leaf (.str u) => sD (("zz" : Str) ++ u)
    | d => d) fun d hd => ?_]
  · unfold L2.Tr.signs candL
    rw [List.map_map, List.map_map]
    rfl
  · unfold L2.Tr.signs at hd
    obtain ⟨c, hc, rfl⟩ := List.mem_map.mp hd
    exact ⟨_, rfl, rfl, rfl⟩
theorem spare_ok {ps : List (Str × List Str)} {xs named : List Str} (h : Cols ps xs) (hn : named.length ≤ 50) : fSpare [wD ps xs named] = some (.seq true ((spareL ps xs named).map sD)) := by
  show runF nSpare.length FSpare [wD ps xs named] = _
  refine run_rt ?_
  have l3 := h.l3
  have : Lim = 5000 := rfl
  obtain ⟨t2, e⟩ := spare_loop (w := wD ps xs named) (s3 := .un) (s4 := .un) (os := osOf ps xs) (kn := keysOf ps xs ++ named) (s2 := .un) (os_good h) (by rw [List.length_append, keys_len, os_len]; omega)
  rw [os_flat] at e
  show seqF _ _ [.pu (wD ps xs named), .un, .un, .un, .un] = _
  refine (seq_nx (ρ2 := [.pu (wD ps xs named), .pu (.seq true ((keysOf ps xs ++ named).map sD)), .un, .un, .un]) ?_).trans ?_
  · have a : bin2 addD (mapS (app1 lstA (consD (bin2 dgD (atP 0) (kD (.leaf (.str "names")))) nilD))) (mapS (app1 lstA (consD (bin2 dgD (atP 0) (kD (.leaf (.str "named")))) nilD))) [.pu (wD ps xs named), .un, .un, .un, .un] = some (.seq true ((keysOf ps xs ++ named).map sD)) := by
      rw [bin_2 (d := .seq true ((keysOf ps xs).map sD)) (e := .seq true (named.map sD)) rfl rfl, add_lst, List.map_append]
      rw [List.length_map, List.length_map, keys_len]; omega
    unfold asgF
    rw [a]; rfl
  · refine (seq_nx (ρ2 := [.pu (wD ps xs named), .pu (.seq true ((knownL ps xs named).map sD)), t2, .un, .un]) ?_).trans ?_
    · show loopF (setF 2) spB (valsOf ps xs) _ = _
      rw [vals_os]
      exact e
    · refine ret_f (maps_ ?_)
      have c : seqsF (mapS (lcF [4] (strsF (kD (.leaf (.str "abcdefghijklmnopqrstuv")))) (setF 4) yesF (bin2 addD (kD (.leaf (.str "zz"))) (atP 4)))) [.pu (wD ps xs named), .pu (.seq true ((knownL ps xs named).map sD)), t2, .un, .un] = some (candL.map sD) := by
        unfold seqsF
        rw [maps_ (cands rfl)]; rfl
      rw [lc_ c (by decide +kernel)]
      rw [comp_flt (p := fun d => match d with
        | .leaf (.str x) => !decide (x ∈ knownL ps xs named)
        | _ => false) (g := fun d => d) fun d hd => ?_]
      · congr 1
        rw [List.map_id']
        unfold spareL
        rw [List.filter_map]
        rfl
      · obtain ⟨x, hx, rfl⟩ := List.mem_map.mp hd
        refine ⟨[.pu (wD ps xs named), .pu (.seq true ((knownL ps xs named).map sD)), t2, .pu (sD x), .un], rfl, ?_, fun _ => rfl⟩
        refine asB_ ?_
        rw [bin_2 (d := sD x) (e := .seq true ((knownL ps xs named).map sD)) rfl rfl, inD_str]
        rw [Bool.true_xor]
end L2.K1

namespace L2.K1
open PySem PySem.Spec PyProof.Rows L2.Tr
/-! all rows -/
theorem cut_to {α : Type} (xs : List α) (k : Nat) : L2.Tr.cutD xs none (some (k : Int)) = xs.take k := by
  unfold L2.Tr.cutD
  rw [HT.sIx_none, HT.sIx_nat, List.drop_zero, Nat.sub_zero]
  by_cases h : k ≤ xs.length
  · rw [Nat.min_eq_left h]
  · rw [Nat.min_eq_right (by omega), List.take_length, List.take_of_length_le (by omega)]
theorem cut_from {α : Type} (xs : List α) (k : Nat) : L2.Tr.cutD xs (some (k : Int)) none = xs.drop k := by
  unfold L2.Tr.cutD
  rw [HT.sIx_none, HT.sIx_nat]
  by_cases h : k ≤ xs.length
  · rw [Nat.min_eq_left h, List.take_of_length_le (by rw [List.length_drop]; exact Nat.le_refl _)]
  · rw [Nat.min_eq_right (by omega), Nat.sub_self, List.take_zero, List.drop_eq_nil_of_le (by omega)]
theorem sl_to {φ : L2.Tr.Env → Option D} {ρ : L2.Tr.Env} {xs : List D} {k : Nat} {ψ : L2.Tr.Env → Option D} {hi : L2.Tr.Env → Option (Option Int)} (h : φ ρ = some (.seq true xs)) (hk : hi ρ = some (some (k : Int))) :
    orE (mapS (slF slO φ (fun _ => some none) hi)) ψ ρ = some (.seq true (xs.take k)) := by
  have e : slF slO φ (fun _ => some none) hi ρ = some (xs.take k) := by
    unfold slF
    rw [h, Option.bind_some, Option.bind_some, hk, Option.bind_some]
    show some (L2.Tr.cutD xs none (some (k : Int))) = _
    rw [cut_to]
  unfold orE
  rw [maps_ e]; rfl
theorem sl_from {φ : L2.Tr.Env → Option D} {ρ : L2.Tr.Env} {xs : List D} {k : Nat} {ψ : L2.Tr.Env → Option D} {lo : L2.Tr.Env → Option (Option Int)} (h : φ ρ = some (.seq true xs)) (hk : lo ρ = some (some (k : Int))) :
    orE (mapS (slF slO φ lo (fun _ => some none))) ψ ρ = some (.seq true (xs.drop k)) := by
  have e : slF slO φ lo (fun _ => some none) ρ = some (xs.drop k) := by
    unfold slF
    rw [h, Option.bind_some, hk, Option.bind_some, Option.bind_some]
    show some (L2.Tr.cutD xs (some (k : Int)) none) = _
    rw [cut_from]
  unfold orE
  rw [maps_ e]; rfl
def rowsD (rs : List (List Str)) : List D := rs.map fun r => .seq false (r.map sD)
def someOf (named sp : List Str) (o : Option (List Str)) (r : List Str) : List Str := match o with
  | some xs => xs
  | none => named ++ (if sp.headD "" ∈ r then sp.take 2 else sp.take 1)
def lB : L2.Tr.Env → Option Out := seqF (asgF (ifF (asBF (bin2 (inD false) (bin2 ixD (atP 2) (kD (.leaf (.int 0)))) (atP 5))) (orE (mapS (slF slO (atP 2) (fun _ => some none) (partF (kD (.leaf (.int 2)))))) (slF slT (atP 2) (fun _ => some none) (partF (kD (.leaf (.int 2)))))) (orE (mapS (slF slO (atP 2) (fun _ => some none) (partF (kD (.leaf (.int 1)))))) (slF slT (atP 2) (fun _ => some none) (partF (kD (.leaf (.int 1))))))) (setF 6)) (seqF (asgF (ifF (asBF (bin2 (isN true) (atP 3) (kD (.leaf .non)))) (mapS (app1 lstA (consD (atP 3) nilD))) (bin2 addD (bin2 dgD (atP 0) (kD (.leaf (.str "named")))) (atP 6))) (setF 7)) (growF 4 (extArg (mapS (lcF [8] (seqsF (atP 7)) (setF 8) yesF (bin2 addD (atP 5) (tupDisp (consD (atP 8) nilD)))))) fun xs ds => xs ++ ds))
theorem asg_ {φ : L2.Tr.Env → Option D} {ρ : L2.Tr.Env} {i : Nat} {d : D} (h : φ ρ = some d) : asgF φ (setF i) ρ = some (.nx (ρ.set i (.pu d))) := by
  unfold asgF
  rw [h]; rfl
theorem someOf_len {named sp r : List Str} {o : Option (List Str)} (hn : named.length ≤ 2) (ho : ∀ xs, o = some xs → xs.length ≤ 3) : (someOf named sp o r).length ≤ 4 := by
  cases o with
  | some xs => have := ho xs rfl; show xs.length ≤ 4; omega
  | none =>
    show (named ++ _).length ≤ 4
    rw [List.length_append]
    split
    · have := List.length_take_le 2 sp; omega
    · have := List.length_take_le 1 sp; omega
theorem lB_ok {ps : List (Str × List Str)} {xs named : List Str} {R : Sl} {s0 : Str} {st : List Str} {o : Option (List Str)} {acc : List (List Str)} {r : List Str} {s6 s7 s8 : Sl} (hn : named.length ≤ 2) (ho : ∀ xs, o = some xs → xs.length ≤ 3) (hr : r.length ≤ 10) (ha : acc.length ≤ 4000) :
    ∃ t6 t7, lB [.pu (wD ps xs named), R, .pu (.seq true ((s0 :: st).map sD)), .pu (vD o), .ow (.seq true (rowsD acc)), .pu (.seq false (r.map sD)), s6, s7, s8] = some (.nx [.pu (wD ps xs named), R, .pu (.seq true ((s0 :: st).map sD)), .pu (vD o), .ow (.seq true (rowsD (acc ++ (someOf named (s0 :: st) o r).map fun x => r ++ [x]))), .pu (.seq false (r.map sD)), t6, t7, s8]) := by
  have hL : Lim = 5000 := rfl
  have hs := someOf_len (sp := s0 :: st) (r := r) hn ho
  let fr : List Str := if s0 ∈ r then (s0 :: st).take 2 else (s0 :: st).take 1
  have hfr : fr.length ≤ 2 := by
    show (if s0 ∈ r then (s0 :: st).take 2 else (s0 :: st).take 1).length ≤ 2
    split
    · exact List.length_take_le 2 _
    · have := List.length_take_le 1 (s0 :: st); omega
  refine ⟨.pu (.seq true (fr.map sD)), .pu (.seq true ((someOf named (s0 :: st) o r).map sD)), ?_⟩
  unfold lB
  refine (seq_nx (ρ2 := [.pu (wD ps xs named), R, .pu (.seq true ((s0 :: st).map sD)), .pu (vD o), .ow (.seq true (rowsD acc)), .pu (.seq false (r.map sD)), .pu (.seq true (fr.map sD)), s7, s8]) ?_).trans ?_
  · refine (asg_ (d := .seq true (fr.map sD)) ?_).trans rfl
    unfold ifF
    have t : asBF (bin2 (inD false) (bin2 ixD (atP 2) (kD (.leaf (.int 0)))) (atP 5)) [.pu (wD ps xs named), R, .pu (.seq true ((s0 :: st).map sD)), .pu (vD o), .ow (.seq true (rowsD acc)), .pu (.seq false (r.map sD)), s6, s7, s8] = some (decide (s0 ∈ r)) := by
      refine asB_ ?_
      rw [bin_2 (d := sD s0) (e := .seq false (r.map sD)) ?_ rfl, inD_str, Bool.false_xor]
      rw [bin_2 (d := .seq true ((s0 :: st).map sD)) (e := .leaf (.int 0)) rfl rfl]
      show atI ((s0 :: st).map sD) 0 = _
      unfold L2.atI L2.ixN
      simp
    rw [t, Option.bind_some]
    by_cases h : s0 ∈ r
    · rw [decide_eq_true h, if_pos rfl, sl_to (xs := (s0 :: st).map sD) (k := 2) rfl rfl, ← List.map_take]
      show _ = some (D.seq true ((if s0 ∈ r then (s0 :: st).take 2 else (s0 :: st).take 1).map sD))
      rw [if_pos h]
    · rw [decide_eq_false h, if_neg (by decide), sl_to (xs := (s0 :: st).map sD) (k := 1) rfl rfl, ← List.map_take]
      show _ = some (D.seq true ((if s0 ∈ r then (s0 :: st).take 2 else (s0 :: st).take 1).map sD))
      rw [if_neg h]
  · refine (seq_nx (ρ2 := [.pu (wD ps xs named), R, .pu (.seq true ((s0 :: st).map sD)), .pu (vD o), .ow (.seq true (rowsD acc)), .pu (.seq false (r.map sD)), .pu (.seq true (fr.map sD)), .pu (.seq true ((someOf named (s0 :: st) o r).map sD)), s8]) ?_).trans ?_
    · refine (asg_ (d := .seq true ((someOf named (s0 :: st) o r).map sD)) ?_).trans rfl
      unfold ifF
      cases o with
      | some ys =>
        have t : asBF (bin2 (isN true) (atP 3) (kD (.leaf .non))) [.pu (wD ps xs named), R, .pu (.seq true ((s0 :: st).map sD)), .pu (vD (some ys)), .ow (.seq true (rowsD acc)), .pu (.seq false (r.map sD)), .pu (.seq true (fr.map sD)), s7, s8] = some true := rfl
        rw [t, Option.bind_some, if_pos rfl]
        rfl
      | none =>
        have t : asBF (bin2 (isN true) (atP 3) (kD (.leaf .non))) [.pu (wD ps xs named), R, .pu (.seq true ((s0 :: st).map sD)), .pu (vD none), .ow (.seq true (rowsD acc)), .pu (.seq false (r.map sD)), .pu (.seq true (fr.map sD)), s7, s8] = some false := rfl
        rw [t, Option.bind_some, if_neg (by decide)]
        rw [bin_2 (d := .seq true (named.map sD)) (e := .seq true (fr.map sD)) rfl rfl, add_lst (by rw [List.length_map, List.length_map]; omega), ← List.map_append]
        rfl
    · have c : lcF [8] (seqsF (atP 7)) (setF 8) yesF (bin2 addD (atP 5) (tupDisp (consD (atP 8) nilD))) [.pu (wD ps xs named), R, .pu (.seq true ((s0 :: st).map sD)), .pu (vD o), .ow (.seq true (rowsD acc)), .pu (.seq false (r.map sD)), .pu (.seq true (fr.map sD)), .pu (.seq true ((someOf named (s0 :: st) o r).map sD)), s8] = some (rowsD ((someOf named (s0 :: st) o r).map fun x => r ++ [x])) := by
        rw [lc_ (ds := (someOf named (s0 :: st) o r).map sD) rfl (by rw [List.length_map]; omega)]
        rw [comp_map (g := fun d => .seq false (r.map sD ++ [d])) fun d hd => ?_]
        · unfold rowsD
          rw [List.map_map, List.map_map]
          congr 1
          apply List.map_congr_left
          intro x _
          show D.seq false (r.map sD ++ [sD x]) = D.seq false ((r ++ [x]).map sD)
          rw [List.map_append]; rfl
        · refine ⟨[.pu (wD ps xs named), R, .pu (.seq true ((s0 :: st).map sD)), .pu (vD o), .ow (.seq true (rowsD acc)), .pu (.seq false (r.map sD)), .pu (.seq true (fr.map sD)), .pu (.seq true ((someOf named (s0 :: st) o r).map sD)), .pu d], rfl, rfl, ?_⟩
          rw [bin_2 (d := .seq false (r.map sD)) (e := .seq false [d]) rfl ?_, add_tup (by rw [List.length_map, List.length_singleton]; omega)]
          show (if [d].length ≤ Lim then some (D.seq false [d]) else none) = _
          rw [if_pos (by rw [List.length_singleton]; omega)]
      have x : extArg (mapS (lcF [8] (seqsF (atP 7)) (setF 8) yesF (bin2 addD (atP 5) (tupDisp (consD (atP 8) nilD))))) [.pu (wD ps xs named), R, .pu (.seq true ((s0 :: st).map sD)), .pu (vD o), .ow (.seq true (rowsD acc)), .pu (.seq false (r.map sD)), .pu (.seq true (fr.map sD)), .pu (.seq true ((someOf named (s0 :: st) o r).map sD)), s8] = some (rowsD ((someOf named (s0 :: st) o r).map fun x => r ++ [x])) := by
        unfold extArg
        rw [maps_ c]; rfl
      unfold growF
      show ((extArg _ [.pu (wD ps xs named), R, .pu (.seq true ((s0 :: st).map sD)), .pu (vD o), .ow (.seq true (rowsD acc)), .pu (.seq false (r.map sD)), .pu (.seq true (fr.map sD)), .pu (.seq true ((someOf named (s0 :: st) o r).map sD)), s8]).bind fun d => if (rowsD acc ++ d).length ≤ Lim then _ else none) = _
      rw [x, Option.bind_some, if_pos (by unfold rowsD; rw [List.length_append, List.length_map, List.length_map, List.length_map]; omega)]
      unfold rowsD
      rw [List.map_append]
      rfl
end L2.K1

namespace L2.K1
open PySem PySem.Spec PyProof.Rows L2.Tr
def stepR (named sp : List Str) (o : Option (List Str)) (rs : List (List Str)) : List (List Str) := rs.flatMap fun r => (someOf named sp o r).map fun x => r ++ [x]
def rowsOf (named sp : List Str) : List (Option (List Str)) → List (List Str) → List (List Str)
  | [], rs => rs
  | o :: os, rs => rowsOf named sp os (stepR named sp o rs)
theorem step_len {named sp : List Str} {o : Option (List Str)} (hn : named.length ≤ 2) (ho : ∀ xs, o = some xs → xs.length ≤ 3) : ∀ rs : List (List Str), (stepR named sp o rs).length ≤ 4 * rs.length
  | [] => by unfold stepR; simp
  | r :: rs => by
    have ih := step_len (sp := sp) hn ho rs
    have := someOf_len (sp := sp) (r := r) hn ho
    unfold stepR at ih ⊢
    rw [List.flatMap_cons, List.length_append, List.length_map, List.length_cons]
    omega
theorem rows_app (a b : List (List Str)) : rowsD a ++ rowsD b = rowsD (a ++ b) := by unfold rowsD; rw [List.map_append]
theorem in_loop {ps : List (Str × List Str)} {xs named : List Str} {R s8 : Sl} {s0 : Str} {st : List Str} {o : Option (List Str)} (hn : named.length ≤ 2) (ho : ∀ xs, o = some xs → xs.length ≤ 3) : ∀ {rs acc : List (List Str)} {s5 s6 s7 : Sl}, (∀ r ∈ rs, r.length ≤ 10) → acc.length + 4 * rs.length ≤ 4000 →
    ∃ t5 t6 t7, loopF (setF 5) lB (rowsD rs) [.pu (wD ps xs named), R, .pu (.seq true ((s0 :: st).map sD)), .pu (vD o), .ow (.seq true (rowsD acc)), s5, s6, s7, s8] = some (.nx [.pu (wD ps xs named), R, .pu (.seq true ((s0 :: st).map sD)), .pu (vD o), .ow (.seq true (rowsD (acc ++ stepR named (s0 :: st) o rs))), t5, t6, t7, s8])
  | [], acc, s5, s6, s7, _, _ => ⟨s5, s6, s7, by unfold stepR; rw [List.flatMap_nil, List.append_nil]; rfl⟩
  | r :: rs, acc, s5, s6, s7, hr, hl => by
    rw [List.length_cons] at hl
    have hs := someOf_len (sp := s0 :: st) (r := r) hn ho
    obtain ⟨t6, t7, e1⟩ := lB_ok (ps := ps) (xs := xs) (R := R) (s0 := s0) (st := st) (acc := acc) (r := r) (s6 := s6) (s7 := s7) (s8 := s8) hn ho (hr r List.mem_cons_self) (by omega)
    obtain ⟨u5, u6, u7, e2⟩ := in_loop hn ho (ps := ps) (xs := xs) (R := R) (s8 := s8) (s0 := s0) (st := st) (rs := rs) (acc := acc ++ (someOf named (s0 :: st) o r).map fun x => r ++ [x]) (s5 := .pu (.seq false (r.map sD))) (s6 := t6) (s7 := t7) (fun q hq => hr q (List.mem_cons_of_mem _ hq)) (by rw [List.length_append, List.length_map]; omega)
    refine ⟨u5, u6, u7, ?_⟩
    show ((lB [.pu (wD ps xs named), R, .pu (.seq true ((s0 :: st).map sD)), .pu (vD o), .ow (.seq true (rowsD acc)), .pu (.seq false (r.map sD)), s6, s7, s8]).bind fun o1 => match o1 with
      | .nx ρ2 => loopF (setF 5) lB (rowsD rs) ρ2
      | .ct ρ2 => loopF (setF 5) lB (rowsD rs) ρ2
      | .bk ρ2 => some (.nx ρ2)
      | .rt d => some (.rt d)) = _
    rw [e1]
    show loopF _ _ _ _ = _
    rw [e2, List.append_assoc]
    rfl
def oB : L2.Tr.Env → Option Out := seqF (asgO 4 (lstDisp nilD)) (seqF (forF (seqsF (atP 1)) (setF 5) lB) (moveF 1 4))
theorem oB_ok {ps : List (Str × List Str)} {xs named : List Str} {s4 s5 s6 s7 s8 : Sl} {s0 : Str} {st : List Str} {o : Option (List Str)} {rs : List (List Str)} (hn : named.length ≤ 2) (ho : ∀ xs, o = some xs → xs.length ≤ 3) (hr : ∀ r ∈ rs, r.length ≤ 10) (hl : 4 * rs.length ≤ 4000) :
    ∃ t4 t5 t6 t7, oB [.pu (wD ps xs named), .pu (.seq true (rowsD rs)), .pu (.seq true ((s0 :: st).map sD)), .pu (vD o), s4, s5, s6, s7, s8] = some (.nx [.pu (wD ps xs named), .pu (.seq true (rowsD (stepR named (s0 :: st) o rs))), .pu (.seq true ((s0 :: st).map sD)), .pu (vD o), t4, t5, t6, t7, s8]) := by
  obtain ⟨u5, u6, u7, e⟩ := in_loop hn ho (ps := ps) (xs := xs) (R := .pu (.seq true (rowsD rs))) (s8 := s8) (s0 := s0) (st := st) (rs := rs) (acc := []) (s5 := s5) (s6 := s6) (s7 := s7) hr (by rw [List.length_nil]; omega)
  rw [List.nil_append] at e
  refine ⟨.pu (.seq true (rowsD (stepR named (s0 :: st) o rs))), u5, u6, u7, ?_⟩
  unfold oB
  refine (seq_nx (ρ2 := [.pu (wD ps xs named), .pu (.seq true (rowsD rs)), .pu (.seq true ((s0 :: st).map sD)), .pu (vD o), .ow (.seq true (rowsD [])), s5, s6, s7, s8]) rfl).trans ?_
  refine (seq_nx (by exact e)).trans ?_
  rfl
theorem step_row {named sp : List Str} {o : Option (List Str)} {rs : List (List Str)} {k : Nat} (hr : ∀ r ∈ rs, r.length ≤ k) : ∀ r ∈ stepR named sp o rs, r.length ≤ k + 1 := fun r h => by
  obtain ⟨q, hq, h⟩ := List.mem_flatMap.mp h
  obtain ⟨x, hx, rfl⟩ := List.mem_map.mp h
  rw [List.length_append, List.length_singleton]
  have := hr q hq
  omega
theorem out_loop {ps : List (Str × List Str)} {xs named : List Str} {s8 : Sl} {s0 : Str} {st : List Str} (hn : named.length ≤ 2) : ∀ {os : List (Option (List Str))} {rs : List (List Str)} {s3 s4 s5 s6 s7 : Sl}, (∀ o ∈ os, ∀ xs, o = some xs → xs.length ≤ 3) → (∀ r ∈ rs, r.length + os.length ≤ 10) → rs.length * 4 ^ os.length ≤ 1000 →
    ∃ t3 t4 t5 t6 t7, loopF (setF 3) oB (os.map vD) [.pu (wD ps xs named), .pu (.seq true (rowsD rs)), .pu (.seq true ((s0 :: st).map sD)), s3, s4, s5, s6, s7, s8] = some (.nx [.pu (wD ps xs named), .pu (.seq true (rowsD (rowsOf named (s0 :: st) os rs))), .pu (.seq true ((s0 :: st).map sD)), t3, t4, t5, t6, t7, s8])
  | [], rs, s3, s4, s5, s6, s7, _, _, _ => ⟨s3, s4, s5, s6, s7, rfl⟩
  | o :: os, rs, s3, s4, s5, s6, s7, ho, hr, hl => by
    rw [List.length_cons] at hr hl
    have hp : 1 ≤ 4 ^ os.length := Nat.one_le_pow _ _ (by decide)
    have hl2 : 4 * rs.length * 4 ^ os.length ≤ 1000 := by rw [Nat.pow_succ] at hl; rw [Nat.mul_comm 4 rs.length, Nat.mul_assoc, Nat.mul_comm 4]; exact hl
    have hl3 : 4 * rs.length ≤ 1000 := Nat.le_trans (Nat.le_mul_of_pos_right _ hp) hl2
    have hl4 := step_len (sp := s0 :: st) (o := o) hn (ho o List.mem_cons_self) rs
    obtain ⟨t4, t5, t6, t7, e1⟩ := oB_ok (ps := ps) (xs := xs) (s4 := s4) (s5 := s5) (s6 := s6) (s7 := s7) (s8 := s8) (s0 := s0) (st := st) (o := o) (rs := rs) hn (ho o List.mem_cons_self) (fun r h => by have := hr r h; omega) (by omega)
    obtain ⟨u3, u4, u5, u6, u7, e2⟩ := out_loop (ps := ps) (xs := xs) (s8 := s8) (s0 := s0) (st := st) hn (os := os) (rs := stepR named (s0 :: st) o rs) (s3 := .pu (vD o)) (s4 := t4) (s5 := t5) (s6 := t6) (s7 := t7) (fun o' h => ho o' (List.mem_cons_of_mem _ h)) (fun r h => by
      have := step_row (k := 10 - os.length - 1) (fun r h => by have := hr r h; omega) r h
      have hb : os.length + 1 ≤ 10 := by
        obtain ⟨q, hq, _⟩ := List.mem_flatMap.mp h
        have := hr q hq; omega
      omega) (Nat.le_trans (Nat.mul_le_mul_right _ hl4) hl2)
    refine ⟨u3, u4, u5, u6, u7, ?_⟩
    show ((oB [.pu (wD ps xs named), .pu (.seq true (rowsD rs)), .pu (.seq true ((s0 :: st).map sD)), .pu (vD o), s4, s5, s6, s7, s8]).bind fun o1 => match o1 with
      | .nx ρ2 => loopF (setF 3) oB (os.map vD) ρ2
      | .ct ρ2 => loopF (setF 3) oB (os.map vD) ρ2
      | .bk ρ2 => some (.nx ρ2)
      | .rt d => some (.rt d)) = _
    rw [e1]
    show loopF _ _ _ _ = _
    rw [e2]
    rfl
theorem letters_ok {ps : List (Str × List Str)} {xs named : List Str} (h : Cols ps xs) (hn : named.length ≤ 2) {s0 : Str} {st : List Str} (hs : spareL ps xs named = s0 :: st) : fLetters [wD ps xs named] = some (.seq true (rowsD (rowsOf named (s0 :: st) (osOf ps xs) [[]]))) := by
  show runF nLetters.length FLetters [wD ps xs named] = _
  refine run_rt ?_
  have l3 := h.l3
  have ll : (osOf ps xs).length ≤ 3 := by rw [os_len]; exact l3
  obtain ⟨t3, t4, t5, t6, t7, e⟩ := out_loop (ps := ps) (xs := xs) (s8 := .un) (s0 := s0) (st := st) hn (os := osOf ps xs) (rs := [[]]) (s3 := .un) (s4 := .un) (s5 := .un) (s6 := .un) (s7 := .un) (fun o ho ys e => (os_good h o ho ys e).2) (fun r hr => by rw [List.mem_singleton.mp hr, List.length_nil]; omega)
    (by rw [List.length_singleton, Nat.one_mul]; exact Nat.le_trans (Nat.pow_le_pow_right (by decide) ll) (by decide))
  show seqF _ _ [.pu (wD ps xs named), .un, .un, .un, .un, .un, .un, .un, .un] = _
  refine (seq_nx (ρ2 := [.pu (wD ps xs named), .pu (.seq true (rowsD [[]])), .pu (.seq true ((s0 :: st).map sD)), .un, .un, .un, .un, .un, .un]) ?_).trans ?_
  · have sp := spare_ok (named := named) h (by omega)
    rw [hs] at sp
    show ((some (D.seq true [.seq false []])).bind fun d => ((app1 fSpare (consD (atP 0) nilD)) [.pu (wD ps xs named), .un, .un, .un, .un, .un, .un, .un, .un]).map fun d' => Out.nx (([Sl.pu (wD ps xs named), .un, .un, .un, .un, .un, .un, .un, .un].set 1 (Sl.pu d)).set 2 (Sl.pu d'))) = _
    rw [app_1 (d := wD ps xs named) rfl, sp]
    rfl
  · refine (seq_nx (ρ2 := _) (by
      show loopF (setF 3) oB (valsOf ps xs) _ = _
      rw [vals_os]
      exact e)).trans ?_
    rfl
/-! what stands in them -/
def Fits (o : Option (List Str)) (x : Str) : Prop := isW x = true ∧ ∀ xs, o = some xs → x ∈ xs
theorem rows_fit {named sp : List Str} (hn : ∀ x ∈ named, isW x = true) (hs : ∀ x ∈ sp, isW x = true) : ∀ {os : List (Option (List Str))} {rs : List (List Str)}, (∀ o ∈ os, ∀ xs, o = some xs → ∀ x ∈ xs, isW x = true) → ∀ r ∈ rowsOf named sp os rs, ∃ r0 ∈ rs, ∃ t, r = r0 ++ t ∧ Paired Fits os t
  | [], rs, _, r, h => ⟨r, h, [], (List.append_nil r).symm, .nil⟩
  | o :: os, rs, ho, r, h => by
    obtain ⟨r1, h1, t, rfl, pt⟩ := rows_fit hn hs (os := os) (fun o' h' => ho o' (List.mem_cons_of_mem _ h')) r h
    obtain ⟨r0, h0, h1⟩ := List.mem_flatMap.mp h1
    obtain ⟨x, hx, rfl⟩ := List.mem_map.mp h1
    refine ⟨r0, h0, x :: t, by rw [List.append_assoc]; rfl, .cons ?_ pt⟩
    cases o with
    | some xs => exact ⟨ho _ List.mem_cons_self xs rfl x hx, fun ys e => by cases e; exact hx⟩
    | none =>
      refine ⟨?_, fun ys e => by cases e⟩
      rcases List.mem_append.mp hx with q | q
      · exact hn x q
      · split at q
        · exact hs x (List.mem_of_mem_take q)
        · exact hs x (List.mem_of_mem_take q)
end L2.K1

namespace L2.K1
open PySem PySem.Spec PyProof.Rows L2.Tr
theorem cons_ {φ : L2.Tr.Env → Option D} {ψ : L2.Tr.Env → Option (List D)} {ρ : L2.Tr.Env} {d : D} {ds : List D} (h : φ ρ = some d) (h2 : ψ ρ = some ds) : consD φ ψ ρ = some (d :: ds) := by
  unfold consD
  rw [h, Option.bind_some, h2]; rfl
theorem lst_ {ψ : L2.Tr.Env → Option (List D)} {ρ : L2.Tr.Env} {ds : List D} (h : ψ ρ = some ds) (hl : ds.length ≤ Lim) : lstDisp ψ ρ = some ds := by
  show (ψ ρ).bind (fun ds => if ds.length ≤ Lim then some ds else none) = _
  rw [h, Option.bind_some, if_pos hl]
theorem sub_len {α : Type} [DecidableEq α] : ∀ {l m : List α}, l.Nodup → (∀ x ∈ l, x ∈ m) → l.length ≤ m.length
  | [], m, _, _ => Nat.zero_le _
  | a :: l, m, hn, h => by
    obtain ⟨h1, h2⟩ := List.nodup_cons.mp hn
    have ha := h a List.mem_cons_self
    have ih := sub_len (l := l) (m := m.erase a) h2 fun x hx => (List.mem_erase_of_ne fun z => h1 (by rw [← z]; exact hx)).mpr (h x (List.mem_cons_of_mem _ hx))
    have := List.length_erase_of_mem ha
    have := List.length_pos_of_mem ha
    rw [List.length_cons]
    omega
def FSp : L2.Tr.Env → Option D := (bin2 addD (mapS (lstDisp (consD (atP 4) nilD))) (mapS (lcF [6] (strsF (kD (.leaf (.str "abcdefghijklmnop")))) (setF 6) yesF (bin2 addD (bin2 addD (atP 6) (kD (.leaf (.str "q")))) (atP 6)))))
def FAp : L2.Tr.Env → Option D := (bin2 ixD (mapS (lcF [7] (seqsF (atP 5)) (setF 7) (andB (asBF (bin2 (inD true) (atP 7) (atV 2))) (asBF (bin2 (scD true) (atP 7) (kD (.leaf (.str "number")))))) (atP 7))) (kD (.leaf (.int 0))))
def letp : Str := "abcdefghijklmnop"
def cand16 : List Str := letp.cps.toList.map fun c => ((⟨#[c]⟩ : Str) ++ ("q" : Str)) ++ (⟨#[c]⟩ : Str)
theorem c16_w : ∀ x ∈ cand16, isW x = true ∧ x ≠ "number" := by decide +kernel
theorem c16_nd : cand16.Nodup := by decide +kernel
theorem c16_len : cand16.length = 16 := by decide +kernel
def okNew (fs : List Str) (y : Str) : Bool := !decide (y ∈ fs) && decide (y ≠ "number")
theorem new_ex {fs : List Str} {x : Str} (hl : fs.length ≤ 15) (hx : isW x = true) : ∃ y r, (x :: cand16).filter (okNew fs) = y :: r ∧ isW y = true ∧ y ≠ "number" ∧ y ∉ fs := by
  have mem : ∀ y ∈ (x :: cand16).filter (okNew fs), isW y = true ∧ y ≠ "number" ∧ y ∉ fs := fun y hy => by
    obtain ⟨h1, h2⟩ := List.mem_filter.mp hy
    unfold okNew at h2
    rw [Bool.and_eq_true] at h2
    refine ⟨?_, of_decide_eq_true h2.2, fun z => by rw [decide_eq_true z] at h2; exact Bool.false_ne_true h2.1⟩
    rcases List.mem_cons.mp h1 with z | z
    · rw [z]; exact hx
    · exact (c16_w y z).1
  cases e : (x :: cand16).filter (okNew fs) with
  | cons y r =>
    have := mem y (by rw [e]; exact List.mem_cons_self)
    exact ⟨y, r, rfl, this⟩
  | nil =>
    exfalso
    have all : ∀ y ∈ cand16, y ∈ fs := fun y hy => by
      by_cases z : y ∈ fs
      · exact z
      · have : y ∈ (x :: cand16).filter (okNew fs) := List.mem_filter.mpr ⟨List.mem_cons_of_mem _ hy, by unfold okNew; rw [decide_eq_false z, decide_eq_true (c16_w y hy).2]; rfl⟩
        rw [e] at this; cases this
    have := sub_len c16_nd all
    rw [c16_len] at this
    omega
theorem sp_ok {s0 s1 s2 s3 s5 s6 s7 : Sl} {x : Str} : FSp [s0, s1, s2, s3, .pu (sD x), s5, s6, s7] = some (.seq true ((x :: cand16).map sD)) := by
  have hLim : Lim = 5000 := rfl
  have c : lcF [6] (strsF (kD (.leaf (.str "abcdefghijklmnop")))) (setF 6) yesF (bin2 addD (bin2 addD (atP 6) (kD (.leaf (.str "q")))) (atP 6)) [s0, s1, s2, s3, .pu (sD x), s5, s6, s7] = some (cand16.map sD) := by
    rw [lc_ (ds := L2.Tr.signs letp) rfl (by decide +kernel)]
    rw [comp_map (g := fun d => match d with
      | .leaf (.str u) => sD ((u ++ ("q" : Str)) ++ u)
      | d => d) fun d hd => ?_]
    · unfold L2.Tr.signs cand16
      rw [List.map_map, List.map_map]
      rfl
    · unfold L2.Tr.signs at hd
      obtain ⟨c, hc, rfl⟩ := List.mem_map.mp hd
      exact ⟨_, rfl, rfl, rfl⟩
  unfold FSp
  rw [bin_2 (d := .seq true [sD x]) (maps_ (lst_ (cons_ rfl rfl) (by show (1 : Nat) ≤ Lim; decide))) (maps_ c), add_lst]
  · rfl
  · rw [List.length_singleton, List.length_map, c16_len]; omega
theorem ap_ok {s0 s1 s3 s4 s6 s7 : Sl} {fs : List Str} {x : Str} (hl : fs.length ≤ 15) (hx : isW x = true) : ∃ y, isW y = true ∧ y ≠ "number" ∧ y ∉ fs ∧
    FAp [s0, s1, .ow (.seq true (fs.map sD)), s3, s4, .pu (.seq true ((x :: cand16).map sD)), s6, s7] = some (sD y) := by
  obtain ⟨y, r, e, h1, h2, h3⟩ := new_ex hl hx
  refine ⟨y, h1, h2, h3, ?_⟩
  have hLim : Lim = 5000 := rfl
  have f : lcF [7] (seqsF (atP 5)) (setF 7) (andB (asBF (bin2 (inD true) (atP 7) (atV 2))) (asBF (bin2 (scD true) (atP 7) (kD (.leaf (.str "number")))))) (atP 7) [s0, s1, .ow (.seq true (fs.map sD)), s3, s4, .pu (.seq true ((x :: cand16).map sD)), s6, s7] = some (((x :: cand16).filter (okNew fs)).map sD) := by
    rw [lc_ (ds := (x :: cand16).map sD) rfl (by rw [List.length_map, List.length_cons, c16_len]; omega)]
    rw [comp_flt (p := fun d => match d with
      | .leaf (.str u) => okNew fs u
      | _ => false) (g := fun d => d) fun d hd => ?_]
    · rw [List.map_id', List.filter_map]
      rfl
    · obtain ⟨u, hu, rfl⟩ := List.mem_map.mp hd
      refine ⟨[s0, s1, .ow (.seq true (fs.map sD)), s3, s4, .pu (.seq true ((x :: cand16).map sD)), s6, .pu (sD u)], rfl, ?_, fun _ => rfl⟩
      have i1 : asBF (bin2 (inD true) (atP 7) (atV 2)) [s0, s1, .ow (.seq true (fs.map sD)), s3, s4, .pu (.seq true ((x :: cand16).map sD)), s6, .pu (sD u)] = some (!decide (u ∈ fs)) := by
        refine asB_ ?_
        rw [bin_2 (d := sD u) (e := .seq true (fs.map sD)) rfl rfl, inD_str, Bool.true_xor]
      have i2 : asBF (bin2 (scD true) (atP 7) (kD (.leaf (.str "number")))) [s0, s1, .ow (.seq true (fs.map sD)), s3, s4, .pu (.seq true ((x :: cand16).map sD)), s6, .pu (sD u)] = some (decide (u ≠ "number")) := by
        refine asB_ ?_
        show some (bD (xor true (decide (V.str u = V.str "number")))) = _
        congr 2
        by_cases z : u = "number"
        · rw [decide_eq_true (by rw [z]), decide_eq_false (fun w => w z)]; rfl
        · rw [decide_eq_false (fun w => z (V.str.inj w)), decide_eq_true z]; rfl
      unfold andB
      rw [i1, Option.bind_some, i2]
      show _ = some (!decide (u ∈ fs) && decide (u ≠ "number"))
      cases (!decide (u ∈ fs)) <;> rfl
  unfold FAp
  rw [bin_2 (maps_ f) (e := .leaf (.int 0)) rfl, e]
  show atI ((y :: r).map sD) 0 = _
  unfold L2.atI L2.ixN
  simp

/-! pick -/
theorem lenA_seq (b : Bool) (ds : List D) : lenA [.seq b ds] = some (.leaf (.int ds.length)) := rfl
theorem ix_nat {b : Bool} {ds : List D} {j : Nat} (h : j < ds.length) : ixD (.seq b ds) (.leaf (.int (j : Nat))) = some ds[j] := by
  show atI ds (j : Nat) = _
  rw [L2.atI_nat (List.getElem?_eq_getElem h)]
theorem pick_ok {a : Addr} {b : Bool} {xs : List D} {n : Nat} {R : D → Nat → Prop} (h0 : 0 < xs.length) (hl : xs.length < 1000000) (hn : n ≤ 1000000) (k : ∀ d ∈ xs, R d (n + 1)) : fPickW a [.leaf (.ref a), .seq b xs] n R := by
  refine ⟨rfl, ?_⟩
  show FPickW a [.pu (.leaf (.ref a)), .pu (.seq b xs)] n _
  refine ret_i (b2_i (lf_i rfl (call_i (cons_i rfl (cons_i (d := .leaf (.int xs.length)) rfl (nil_i ?_))))))
  refine ⟨xs.length, rfl, by omega, by omega, hn, fun i i0 i1 => ?_⟩
  obtain ⟨j, rfl⟩ := Int.eq_ofNat_of_zero_le i0
  have hj : j < xs.length := by have : ((j : Nat) : Int) < (xs.length : Int) := i1; omega
  exact ⟨_, ix_nat hj, k _ (List.getElem_mem hj)⟩
/-! words -/
theorem words_loop {a : Addr} {m : Nat} {R : Ou → Nat → Prop} : ∀ (is : List D) (xs : List Str) (n : Nat) (s3 s4 s5 s6 s7 : Sl), xs.length + is.length ≤ 15 → n + 9 * is.length ≤ 1000000 → xs.Nodup → (∀ x ∈ xs, isW x = true ∧ x ≠ "number") →
    (∀ (ys : List Str) (t3 t4 t5 t6 t7 : Sl), ys.length = xs.length + is.length → ys.Nodup → (∀ x ∈ ys, isW x = true ∧ x ≠ "number") → R (.nx [.pu (.leaf (.ref a)), .pu (.leaf (.int m)), .ow (.seq true (ys.map sD)), t3, t4, t5, t6, t7]) (n + 9 * is.length)) →
    loopW (setF 3) (seqW (setW 4 (svP (callW (wordW a) (consW (lf (atP 0)) nilW)))) (lfS (seqF (asgF FSp (setF 5)) (growF 2 FAp fun xs d => xs ++ [d])))) is [.pu (.leaf (.ref a)), .pu (.leaf (.int m)), .ow (.seq true (xs.map sD)), s3, s4, s5, s6, s7] n R
  | [], xs, n, s3, s4, s5, s6, s7, hl, hn, hd, hg, k => k xs s3 s4 s5 s6 s7 rfl hd hg
  | d :: is, xs, n, s3, s4, s5, s6, s7, hl, hn, hd, hg, k => by
    have hn' : n + 9 * (is.length + 1) ≤ 1000000 := hn
    have hl' : xs.length + (is.length + 1) ≤ 15 := hl
    refine ⟨_, rfl, seq_i (set_p (call_i (cons_i rfl (nil_i ⟨rfl, by omega, fun x hx => ?_⟩))))⟩
    obtain ⟨y, y1, y2, y3, y4⟩ := ap_ok (s0 := .pu (.leaf (.ref a))) (s1 := .pu (.leaf (.int m))) (s3 := .pu d) (s4 := .pu (sD x)) (s6 := s6) (s7 := s7) (fs := xs) (x := x) (by omega) hx
    have hLim : Lim = 5000 := rfl
    refine lfS_i (o := .nx [.pu (.leaf (.ref a)), .pu (.leaf (.int m)), .ow (.seq true ((xs ++ [y]).map sD)), .pu d, .pu (sD x), .pu (.seq true ((x :: cand16).map sD)), s6, s7]) ?_ ?_
    · show seqF (asgF FSp (setF 5)) (growF 2 FAp fun xs d => xs ++ [d]) [.pu (.leaf (.ref a)), .pu (.leaf (.int m)), .ow (.seq true (xs.map sD)), .pu d, .pu (sD x), s5, s6, s7] = _
      rw [seq_nx (asg_ sp_ok)]
      show growF 2 FAp (fun xs d => xs ++ [d]) [.pu (.leaf (.ref a)), .pu (.leaf (.int m)), .ow (.seq true (xs.map sD)), .pu d, .pu (sD x), .pu (.seq true ((x :: cand16).map sD)), s6, s7] = _
      show ((FAp [.pu (.leaf (.ref a)), .pu (.leaf (.int m)), .ow (.seq true (xs.map sD)), .pu d, .pu (sD x), .pu (.seq true ((x :: cand16).map sD)), s6, s7]).bind fun d => if (xs.map sD ++ [d]).length ≤ Lim then some (Out.nx _) else none) = _
      rw [y4, Option.bind_some, if_pos (by rw [List.length_append, List.length_map]; have : [sD y].length = 1 := rfl; omega), List.map_append]
      rfl
    · refine words_loop is (xs ++ [y]) (n + 9) _ _ _ _ _ (by rw [List.length_append]; have : [y].length = 1 := rfl; omega) (by omega) ?_ ?_ (fun ys t3 t4 t5 t6 t7 e1 e2 e3 => ?_)
      · rw [List.nodup_append]
        exact ⟨hd, by simp, fun u hu t ht e => y3 (by rw [← List.mem_singleton.mp ht, ← e]; exact hu)⟩
      · intro u hu
        rcases List.mem_append.mp hu with q | q
        · exact hg u q
        · rw [List.mem_singleton.mp q]; exact ⟨y1, y2⟩
      · have e1' : ys.length = xs.length + 1 + is.length := by rw [e1, List.length_append]; rfl
        have := k ys t3 t4 t5 t6 t7 (by rw [e1', List.length_cons]; omega) e2 e3
        rw [List.length_cons] at this
        rw [show n + 9 + 9 * is.length = n + 9 * (is.length + 1) by omega]
        exact this
theorem words_ok {a : Addr} {m n : Nat} {R : D → Nat → Prop} (hm : m ≤ 15) (hn : n + 9 * m ≤ 1000000) (k : ∀ xs : List Str, xs.length = m → xs.Nodup → (∀ x ∈ xs, isW x = true ∧ x ≠ "number") → R (.seq true (xs.map sD)) (n + 9 * m)) : fWords a [.leaf (.ref a), .leaf (.int (m : Nat))] n R := by
  refine ⟨rfl, ?_⟩
  show FWords a [.pu (.leaf (.ref a)), .pu (.leaf (.int m)), .un, .un, .un, .un, .un, .un] n _
  have hr : (rangeL (m : Nat)).length = m := by unfold rangeL; rw [List.length_map, List.length_range]; omega
  refine seq_i (lfS_i (o := .nx [.pu (.leaf (.ref a)), .pu (.leaf (.int m)), .ow (.seq true (([] : List Str).map sD)), .un, .un, .un, .un, .un]) rfl (seq_i (for_i (lf_i (d := rangeL m) ?_ ?_))))
  · show (if (m : Int) ≤ 1000 ∧ -1000 ≤ (m : Int) then some (rangeL m) else none) = _
    rw [if_pos (by omega)]
  · refine words_loop _ [] n _ _ _ _ _ (by rw [hr]; show 0 + m ≤ 15; omega) (by rw [hr]; exact hn) .nil (fun x h => by cases h) fun ys t3 t4 t5 t6 t7 e1 e2 e3 => ?_
    rw [hr] at e1 ⊢
    exact lfS_i (o := .rt (.seq true (ys.map sD))) rfl (k ys (by rw [e1]; exact Nat.zero_add m) e2 e3)
end L2.K1

namespace L2.K1
open PySem PySem.Spec PyProof.Rows L2.Tr
def cntD (ns : List Int) : D := .seq true (ns.map fun i => .leaf (.int i))
def shL : List (List Int × Int) := [([2, 3], 0), ([2, 2], 0), ([2], 1), ([], 2), ([2], 2), ([3], 0)]
def shD : D := .seq true (shL.map fun p => .seq false [cntD p.1, .leaf (.int p.2)])
theorem vals_sub {ys ws : List Str} (S : ys.Sublist ws) (hn : ws.Nodup) (hg : ∀ x ∈ ws, isW x = true ∧ x ≠ "number") (h1 : 1 ≤ ys.length) (h3 : ys.length ≤ 3) : Vals ys := ⟨h1, h3, fun x hx => (hg x (S.subset hx)).1, hn.sublist S⟩
theorem nm_sub {x : Str} {ws : List Str} (S : [x].Sublist ws) (hg : ∀ x ∈ ws, isW x = true ∧ x ≠ "number") : Nm x := ⟨(hg x (S.subset List.mem_cons_self)).1, (hg x (S.subset List.mem_cons_self)).2⟩
theorem loop_c {θ : D → L2.Tr.Env → Option L2.Tr.Env} {Φ : L2.Tr.Env → Option Out} {d : D} {ds : List D} {ρ ρ1 ρ2 : L2.Tr.Env} {o : Out} (h1 : θ d ρ = some ρ1) (h2 : Φ ρ1 = some (.nx ρ2)) (h3 : loopF θ Φ ds ρ2 = some o) : loopF θ Φ (d :: ds) ρ = some o := by
  unfold loopF
  rw [h1, Option.bind_some, h2]
  exact h3
theorem for_c {ψ : L2.Tr.Env → Option (List D)} {θ : D → L2.Tr.Env → Option L2.Tr.Env} {Φ : L2.Tr.Env → Option Out} {ds : List D} {ρ : L2.Tr.Env} {o : Out} (h : ψ ρ = some ds) (h2 : loopF θ Φ ds ρ = some o) : forF ψ θ Φ ρ = some o := by
  unfold forF
  rw [h]
  exact h2
theorem iF {P Q : Prop} (h : Q) : if false = true then P else Q := by rw [if_neg (by decide)]; exact h
theorem iT {P Q : Prop} (h : P) : if true = true then P else Q := by rw [if_pos rfl]; exact h
/-- what a world may be -/
def WorldP (n : Nat) (R : D → Nat → Prop) : Prop := ∀ ps xs named n', Cols ps xs → named.length = 2 → named.Nodup → (∀ x ∈ named, isW x = true) → n' ≤ n + 200 → R (wD ps xs named) n'
theorem world_ok {sa : Addr} {n : Nat} {R : D → Nat → Prop} (hn : n + 200 ≤ 1000000) (k : WorldP n R) : fWorld sa [.leaf (.ref sa), shD] n R := by
  refine ⟨rfl, ?_⟩
  show FWorld sa [.pu (.leaf (.ref sa)), .pu shD, .un, .un, .un, .un, .un, .un, .un] n _
  refine seq_i (asg_i (call_i (cons_i rfl (cons_i rfl (nil_i (pick_ok (xs := shL.map fun p => .seq false [cntD p.1, .leaf (.int p.2)]) (by decide) (by decide) (by omega) fun d hd => ?_))))))
  obtain ⟨⟨ns, f⟩, hp, rfl⟩ := List.mem_map.mp hd
  simp only [shL, List.mem_cons, Prod.mk.injEq, List.not_mem_nil, or_false] at hp
  rcases hp with ⟨rfl, rfl⟩ | ⟨rfl, rfl⟩ | ⟨rfl, rfl⟩ | ⟨rfl, rfl⟩ | ⟨rfl, rfl⟩ | ⟨rfl, rfl⟩
  · refine ⟨_, rfl, seq_i (set_p (call_i (cons_i rfl (cons_i (d := .leaf (.int ((9 : Nat) : Int))) rfl (nil_i (words_ok (by decide) (by omega) fun ws hl hn hg => ?_))))))⟩
    match ws, hl with
    | [w0, w1, w2, w3, w4, w5, w6, w7, w8], _ =>
      refine seq_i (par2_i (svP_i (lf_i (d := .seq true [sD w0, sD w1]) rfl (svO_i (lf_i (d := .seq true []) rfl ⟨rfl, ?_⟩)))))
      refine seq_i (lfS_i (o := .nx [.pu (.leaf (.ref sa)), .pu shD, .pu (cntD [2, 3]), .pu (.leaf (.int 0)), .pu (.seq true ([w0, w1, w2, w3, w4, w5, w6, w7, w8].map sD)), .pu (.seq true [sD w0, sD w1]), .ow (.seq true []), .pu (.seq true [sD w2, sD w3, sD w4, sD w5, sD w6, sD w7, sD w8]), .un]) rfl ?_)
      refine seq_i (lfS_i (o := .nx [.pu (.leaf (.ref sa)), .pu shD, .pu (cntD [2, 3]), .pu (.leaf (.int 0)), .pu (.seq true ([w0, w1, w2, w3, w4, w5, w6, w7, w8].map sD)), .pu (.seq true [sD w0, sD w1]), .ow (.seq true [.seq false [sD w2, sD w3], .seq false [sD w4, sD w5, sD w6]]), .pu (.seq true [sD w7, sD w8]), .pu (.leaf (.int 3))]) (for_c rfl (loop_c (ρ1 := [.pu (.leaf (.ref sa)), .pu shD, .pu (cntD [2, 3]), .pu (.leaf (.int 0)), .pu (.seq true ([w0, w1, w2, w3, w4, w5, w6, w7, w8].map sD)), .pu (.seq true [sD w0, sD w1]), .ow (.seq true []), .pu (.seq true [sD w2, sD w3, sD w4, sD w5, sD w6, sD w7, sD w8]), .pu (.leaf (.int 2))]) (ρ2 := [.pu (.leaf (.ref sa)), .pu shD, .pu (cntD [2, 3]), .pu (.leaf (.int 0)), .pu (.seq true ([w0, w1, w2, w3, w4, w5, w6, w7, w8].map sD)), .pu (.seq true [sD w0, sD w1]), .ow (.seq true [.seq false [sD w2, sD w3]]), .pu (.seq true [sD w4, sD w5, sD w6, sD w7, sD w8]), .pu (.leaf (.int 2))]) rfl rfl (loop_c (ρ1 := [.pu (.leaf (.ref sa)), .pu shD, .pu (cntD [2, 3]), .pu (.leaf (.int 0)), .pu (.seq true ([w0, w1, w2, w3, w4, w5, w6, w7, w8].map sD)), .pu (.seq true [sD w0, sD w1]), .ow (.seq true [.seq false [sD w2, sD w3]]), .pu (.seq true [sD w4, sD w5, sD w6, sD w7, sD w8]), .pu (.leaf (.int 3))]) (ρ2 := [.pu (.leaf (.ref sa)), .pu shD, .pu (cntD [2, 3]), .pu (.leaf (.int 0)), .pu (.seq true ([w0, w1, w2, w3, w4, w5, w6, w7, w8].map sD)), .pu (.seq true [sD w0, sD w1]), .ow (.seq true [.seq false [sD w2, sD w3], .seq false [sD w4, sD w5, sD w6]]), .pu (.seq true [sD w7, sD w8]), .pu (.leaf (.int 3))]) rfl rfl rfl))) ?_)
      refine seq_i (if_i (and_i (lf_i (d := false) rfl (iF (iF (lfS_i (o := .nx [.pu (.leaf (.ref sa)), .pu shD, .pu (cntD [2, 3]), .pu (.leaf (.int 0)), .pu (.seq true ([w0, w1, w2, w3, w4, w5, w6, w7, w8].map sD)), .pu (.seq true [sD w0, sD w1]), .ow (.seq true [.seq false [sD w2, sD w3], .seq false [sD w4, sD w5, sD w6]]), .pu (.seq true [sD w7, sD w8]), .pu (.leaf (.int 3))]) rfl ?_))))))
      refine lfS_i (o := .rt (wD [(w0, [w2, w3]), (w1, [w4, w5, w6])] [] [w7, w8])) rfl (k [(w0, [w2, w3]), (w1, [w4, w5, w6])] [] [w7, w8] _ ⟨fun p hp => ?_, fun x hx => ?_, hn.sublist (show ([w0, w1] : List Str).Sublist _ from (.cons₂ w0 (.cons₂ w1 (.cons w2 (.cons w3 (.cons w4 (.cons w5 (.cons w6 (.cons w7 (.cons w8 .slnil)))))))))), by show 2 ≤ 3; decide, by show 0 ≤ 2; decide, by show 1 ≤ 2; decide⟩ rfl (hn.sublist (show ([w7, w8] : List Str).Sublist _ from (.cons w0 (.cons w1 (.cons w2 (.cons w3 (.cons w4 (.cons w5 (.cons w6 (.cons₂ w7 (.cons₂ w8 .slnil))))))))))) (fun x hx => (hg x ((show ([w7, w8] : List Str).Sublist _ from (.cons w0 (.cons w1 (.cons w2 (.cons w3 (.cons w4 (.cons w5 (.cons w6 (.cons₂ w7 (.cons₂ w8 .slnil)))))))))).subset hx)).1) (by omega))
      · rcases List.mem_cons.mp hp with rfl | hp
        · exact ⟨nm_sub (x := w0) (.cons₂ w0 (.cons w1 (.cons w2 (.cons w3 (.cons w4 (.cons w5 (.cons w6 (.cons w7 (.cons w8 .slnil))))))))) hg, vals_sub (ys := [w2, w3]) (.cons w0 (.cons w1 (.cons₂ w2 (.cons₂ w3 (.cons w4 (.cons w5 (.cons w6 (.cons w7 (.cons w8 .slnil))))))))) hn hg (by show 1 ≤ 2; decide) (by show 2 ≤ 3; decide)⟩
        rcases List.mem_cons.mp hp with rfl | hp
        · exact ⟨nm_sub (x := w1) (.cons w0 (.cons₂ w1 (.cons w2 (.cons w3 (.cons w4 (.cons w5 (.cons w6 (.cons w7 (.cons w8 .slnil))))))))) hg, vals_sub (ys := [w4, w5, w6]) (.cons w0 (.cons w1 (.cons w2 (.cons w3 (.cons₂ w4 (.cons₂ w5 (.cons₂ w6 (.cons w7 (.cons w8 .slnil))))))))) hn hg (by show 1 ≤ 3; decide) (by show 3 ≤ 3; decide)⟩
        exact (List.not_mem_nil hp).elim
      · have := (show ([] : List Str).Sublist [w0, w1, w2, w3, w4, w5, w6, w7, w8] from (.cons w0 (.cons w1 (.cons w2 (.cons w3 (.cons w4 (.cons w5 (.cons w6 (.cons w7 (.cons w8 .slnil)))))))))).subset hx
        exact ⟨(hg x this).1, (hg x this).2⟩
  · refine ⟨_, rfl, seq_i (set_p (call_i (cons_i rfl (cons_i (d := .leaf (.int ((8 : Nat) : Int))) rfl (nil_i (words_ok (by decide) (by omega) fun ws hl hn hg => ?_))))))⟩
    match ws, hl with
    | [w0, w1, w2, w3, w4, w5, w6, w7], _ =>
      refine seq_i (par2_i (svP_i (lf_i (d := .seq true [sD w0, sD w1]) rfl (svO_i (lf_i (d := .seq true []) rfl ⟨rfl, ?_⟩)))))
      refine seq_i (lfS_i (o := .nx [.pu (.leaf (.ref sa)), .pu shD, .pu (cntD [2, 2]), .pu (.leaf (.int 0)), .pu (.seq true ([w0, w1, w2, w3, w4, w5, w6, w7].map sD)), .pu (.seq true [sD w0, sD w1]), .ow (.seq true []), .pu (.seq true [sD w2, sD w3, sD w4, sD w5, sD w6, sD w7]), .un]) rfl ?_)
      refine seq_i (lfS_i (o := .nx [.pu (.leaf (.ref sa)), .pu shD, .pu (cntD [2, 2]), .pu (.leaf (.int 0)), .pu (.seq true ([w0, w1, w2, w3, w4, w5, w6, w7].map sD)), .pu (.seq true [sD w0, sD w1]), .ow (.seq true [.seq false [sD w2, sD w3], .seq false [sD w4, sD w5]]), .pu (.seq true [sD w6, sD w7]), .pu (.leaf (.int 2))]) (for_c rfl (loop_c (ρ1 := [.pu (.leaf (.ref sa)), .pu shD, .pu (cntD [2, 2]), .pu (.leaf (.int 0)), .pu (.seq true ([w0, w1, w2, w3, w4, w5, w6, w7].map sD)), .pu (.seq true [sD w0, sD w1]), .ow (.seq true []), .pu (.seq true [sD w2, sD w3, sD w4, sD w5, sD w6, sD w7]), .pu (.leaf (.int 2))]) (ρ2 := [.pu (.leaf (.ref sa)), .pu shD, .pu (cntD [2, 2]), .pu (.leaf (.int 0)), .pu (.seq true ([w0, w1, w2, w3, w4, w5, w6, w7].map sD)), .pu (.seq true [sD w0, sD w1]), .ow (.seq true [.seq false [sD w2, sD w3]]), .pu (.seq true [sD w4, sD w5, sD w6, sD w7]), .pu (.leaf (.int 2))]) rfl rfl (loop_c (ρ1 := [.pu (.leaf (.ref sa)), .pu shD, .pu (cntD [2, 2]), .pu (.leaf (.int 0)), .pu (.seq true ([w0, w1, w2, w3, w4, w5, w6, w7].map sD)), .pu (.seq true [sD w0, sD w1]), .ow (.seq true [.seq false [sD w2, sD w3]]), .pu (.seq true [sD w4, sD w5, sD w6, sD w7]), .pu (.leaf (.int 2))]) (ρ2 := [.pu (.leaf (.ref sa)), .pu shD, .pu (cntD [2, 2]), .pu (.leaf (.int 0)), .pu (.seq true ([w0, w1, w2, w3, w4, w5, w6, w7].map sD)), .pu (.seq true [sD w0, sD w1]), .ow (.seq true [.seq false [sD w2, sD w3], .seq false [sD w4, sD w5]]), .pu (.seq true [sD w6, sD w7]), .pu (.leaf (.int 2))]) rfl rfl rfl))) ?_)
      refine seq_i (if_i (and_i (lf_i (d := true) rfl (iT (as_i (b2_i (call_i (cons_i rfl (cons_i rfl (nil_i ⟨2, rfl, by decide, by decide, by omega, fun i i0 i1 => lf_i rfl ?_⟩))))))))))
      refine ⟨bD (xor false (decide (V.int i = V.int 0))), rfl, xor false (decide (V.int i = V.int 0)), rfl, ?_⟩
      cases xor false (decide (V.int i = V.int 0)) with
      | false =>
        refine iF (lfS_i (o := .nx [.pu (.leaf (.ref sa)), .pu shD, .pu (cntD [2, 2]), .pu (.leaf (.int 0)), .pu (.seq true ([w0, w1, w2, w3, w4, w5, w6, w7].map sD)), .pu (.seq true [sD w0, sD w1]), .ow (.seq true [.seq false [sD w2, sD w3], .seq false [sD w4, sD w5]]), .pu (.seq true [sD w6, sD w7]), .pu (.leaf (.int 2))]) rfl ?_)
        refine lfS_i (o := .rt (wD [(w0, [w2, w3]), (w1, [w4, w5])] [] [w6, w7])) rfl (k [(w0, [w2, w3]), (w1, [w4, w5])] [] [w6, w7] _ ⟨fun p hp => ?_, fun x hx => ?_, hn.sublist (show ([w0, w1] : List Str).Sublist _ from (.cons₂ w0 (.cons₂ w1 (.cons w2 (.cons w3 (.cons w4 (.cons w5 (.cons w6 (.cons w7 .slnil))))))))), by show 2 ≤ 3; decide, by show 0 ≤ 2; decide, by show 1 ≤ 2; decide⟩ rfl (hn.sublist (show ([w6, w7] : List Str).Sublist _ from (.cons w0 (.cons w1 (.cons w2 (.cons w3 (.cons w4 (.cons w5 (.cons₂ w6 (.cons₂ w7 .slnil)))))))))) (fun x hx => (hg x ((show ([w6, w7] : List Str).Sublist _ from (.cons w0 (.cons w1 (.cons w2 (.cons w3 (.cons w4 (.cons w5 (.cons₂ w6 (.cons₂ w7 .slnil))))))))).subset hx)).1) (by omega))
        · rcases List.mem_cons.mp hp with rfl | hp
          · exact ⟨nm_sub (x := w0) (.cons₂ w0 (.cons w1 (.cons w2 (.cons w3 (.cons w4 (.cons w5 (.cons w6 (.cons w7 .slnil)))))))) hg, vals_sub (ys := [w2, w3]) (.cons w0 (.cons w1 (.cons₂ w2 (.cons₂ w3 (.cons w4 (.cons w5 (.cons w6 (.cons w7 .slnil)))))))) hn hg (by show 1 ≤ 2; decide) (by show 2 ≤ 3; decide)⟩
          rcases List.mem_cons.mp hp with rfl | hp
          · exact ⟨nm_sub (x := w1) (.cons w0 (.cons₂ w1 (.cons w2 (.cons w3 (.cons w4 (.cons w5 (.cons w6 (.cons w7 .slnil)))))))) hg, vals_sub (ys := [w4, w5]) (.cons w0 (.cons w1 (.cons w2 (.cons w3 (.cons₂ w4 (.cons₂ w5 (.cons w6 (.cons w7 .slnil)))))))) hn hg (by show 1 ≤ 2; decide) (by show 2 ≤ 3; decide)⟩
          exact (List.not_mem_nil hp).elim
        · have := (show ([] : List Str).Sublist [w0, w1, w2, w3, w4, w5, w6, w7] from (.cons w0 (.cons w1 (.cons w2 (.cons w3 (.cons w4 (.cons w5 (.cons w6 (.cons w7 .slnil))))))))).subset hx
          exact ⟨(hg x this).1, (hg x this).2⟩
      | true =>
        refine iT (lput_i rfl (lf_i rfl ⟨1, rfl, ?_⟩))
        refine lfS_i (o := .rt (wD [(w0, [w2, w3]), (w1, [w2, w3])] [] [w6, w7])) rfl (k [(w0, [w2, w3]), (w1, [w2, w3])] [] [w6, w7] _ ⟨fun p hp => ?_, fun x hx => ?_, hn.sublist (show ([w0, w1] : List Str).Sublist _ from (.cons₂ w0 (.cons₂ w1 (.cons w2 (.cons w3 (.cons w4 (.cons w5 (.cons w6 (.cons w7 .slnil))))))))), by show 2 ≤ 3; decide, by show 0 ≤ 2; decide, by show 1 ≤ 2; decide⟩ rfl (hn.sublist (show ([w6, w7] : List Str).Sublist _ from (.cons w0 (.cons w1 (.cons w2 (.cons w3 (.cons w4 (.cons w5 (.cons₂ w6 (.cons₂ w7 .slnil)))))))))) (fun x hx => (hg x ((show ([w6, w7] : List Str).Sublist _ from (.cons w0 (.cons w1 (.cons w2 (.cons w3 (.cons w4 (.cons w5 (.cons₂ w6 (.cons₂ w7 .slnil))))))))).subset hx)).1) (by omega))
        · rcases List.mem_cons.mp hp with rfl | hp
          · exact ⟨nm_sub (x := w0) (.cons₂ w0 (.cons w1 (.cons w2 (.cons w3 (.cons w4 (.cons w5 (.cons w6 (.cons w7 .slnil)))))))) hg, vals_sub (ys := [w2, w3]) (.cons w0 (.cons w1 (.cons₂ w2 (.cons₂ w3 (.cons w4 (.cons w5 (.cons w6 (.cons w7 .slnil)))))))) hn hg (by show 1 ≤ 2; decide) (by show 2 ≤ 3; decide)⟩
          rcases List.mem_cons.mp hp with rfl | hp
          · exact ⟨nm_sub (x := w1) (.cons w0 (.cons₂ w1 (.cons w2 (.cons w3 (.cons w4 (.cons w5 (.cons w6 (.cons w7 .slnil)))))))) hg, vals_sub (ys := [w2, w3]) (.cons w0 (.cons w1 (.cons₂ w2 (.cons₂ w3 (.cons w4 (.cons w5 (.cons w6 (.cons w7 .slnil)))))))) hn hg (by show 1 ≤ 2; decide) (by show 2 ≤ 3; decide)⟩
          exact (List.not_mem_nil hp).elim
        · have := (show ([] : List Str).Sublist [w0, w1, w2, w3, w4, w5, w6, w7] from (.cons w0 (.cons w1 (.cons w2 (.cons w3 (.cons w4 (.cons w5 (.cons w6 (.cons w7 .slnil))))))))).subset hx
          exact ⟨(hg x this).1, (hg x this).2⟩
  · refine ⟨_, rfl, seq_i (set_p (call_i (cons_i rfl (cons_i (d := .leaf (.int ((6 : Nat) : Int))) rfl (nil_i (words_ok (by decide) (by omega) fun ws hl hn hg => ?_))))))⟩
    match ws, hl with
    | [w0, w1, w2, w3, w4, w5], _ =>
      refine seq_i (par2_i (svP_i (lf_i (d := .seq true [sD w0, sD w1]) rfl (svO_i (lf_i (d := .seq true []) rfl ⟨rfl, ?_⟩)))))
      refine seq_i (lfS_i (o := .nx [.pu (.leaf (.ref sa)), .pu shD, .pu (cntD [2]), .pu (.leaf (.int 1)), .pu (.seq true ([w0, w1, w2, w3, w4, w5].map sD)), .pu (.seq true [sD w0, sD w1]), .ow (.seq true []), .pu (.seq true [sD w2, sD w3, sD w4, sD w5]), .un]) rfl ?_)
      refine seq_i (lfS_i (o := .nx [.pu (.leaf (.ref sa)), .pu shD, .pu (cntD [2]), .pu (.leaf (.int 1)), .pu (.seq true ([w0, w1, w2, w3, w4, w5].map sD)), .pu (.seq true [sD w0, sD w1]), .ow (.seq true [.seq false [sD w2, sD w3]]), .pu (.seq true [sD w4, sD w5]), .pu (.leaf (.int 2))]) (for_c rfl (loop_c (ρ1 := [.pu (.leaf (.ref sa)), .pu shD, .pu (cntD [2]), .pu (.leaf (.int 1)), .pu (.seq true ([w0, w1, w2, w3, w4, w5].map sD)), .pu (.seq true [sD w0, sD w1]), .ow (.seq true []), .pu (.seq true [sD w2, sD w3, sD w4, sD w5]), .pu (.leaf (.int 2))]) (ρ2 := [.pu (.leaf (.ref sa)), .pu shD, .pu (cntD [2]), .pu (.leaf (.int 1)), .pu (.seq true ([w0, w1, w2, w3, w4, w5].map sD)), .pu (.seq true [sD w0, sD w1]), .ow (.seq true [.seq false [sD w2, sD w3]]), .pu (.seq true [sD w4, sD w5]), .pu (.leaf (.int 2))]) rfl rfl rfl)) ?_)
      refine seq_i (if_i (and_i (lf_i (d := false) rfl (iF (iF (lfS_i (o := .nx [.pu (.leaf (.ref sa)), .pu shD, .pu (cntD [2]), .pu (.leaf (.int 1)), .pu (.seq true ([w0, w1, w2, w3, w4, w5].map sD)), .pu (.seq true [sD w0, sD w1]), .ow (.seq true [.seq false [sD w2, sD w3]]), .pu (.seq true [sD w4, sD w5]), .pu (.leaf (.int 2))]) rfl ?_))))))
      refine lfS_i (o := .rt (wD [(w0, [w2, w3])] [w1] [w4, w5])) rfl (k [(w0, [w2, w3])] [w1] [w4, w5] _ ⟨fun p hp => ?_, fun x hx => ?_, hn.sublist (show ([w0, w1] : List Str).Sublist _ from (.cons₂ w0 (.cons₂ w1 (.cons w2 (.cons w3 (.cons w4 (.cons w5 .slnil))))))), by show 2 ≤ 3; decide, by show 1 ≤ 2; decide, by show 1 ≤ 2; decide⟩ rfl (hn.sublist (show ([w4, w5] : List Str).Sublist _ from (.cons w0 (.cons w1 (.cons w2 (.cons w3 (.cons₂ w4 (.cons₂ w5 .slnil)))))))) (fun x hx => (hg x ((show ([w4, w5] : List Str).Sublist _ from (.cons w0 (.cons w1 (.cons w2 (.cons w3 (.cons₂ w4 (.cons₂ w5 .slnil))))))).subset hx)).1) (by omega))
      · rcases List.mem_cons.mp hp with rfl | hp
        · exact ⟨nm_sub (x := w0) (.cons₂ w0 (.cons w1 (.cons w2 (.cons w3 (.cons w4 (.cons w5 .slnil)))))) hg, vals_sub (ys := [w2, w3]) (.cons w0 (.cons w1 (.cons₂ w2 (.cons₂ w3 (.cons w4 (.cons w5 .slnil)))))) hn hg (by show 1 ≤ 2; decide) (by show 2 ≤ 3; decide)⟩
        exact (List.not_mem_nil hp).elim
      · have := (show ([w1] : List Str).Sublist [w0, w1, w2, w3, w4, w5] from (.cons w0 (.cons₂ w1 (.cons w2 (.cons w3 (.cons w4 (.cons w5 .slnil))))))).subset hx
        exact ⟨(hg x this).1, (hg x this).2⟩
  · refine ⟨_, rfl, seq_i (set_p (call_i (cons_i rfl (cons_i (d := .leaf (.int ((4 : Nat) : Int))) rfl (nil_i (words_ok (by decide) (by omega) fun ws hl hn hg => ?_))))))⟩
    match ws, hl with
    | [w0, w1, w2, w3], _ =>
      refine seq_i (par2_i (svP_i (lf_i (d := .seq true [sD w0, sD w1]) rfl (svO_i (lf_i (d := .seq true []) rfl ⟨rfl, ?_⟩)))))
      refine seq_i (lfS_i (o := .nx [.pu (.leaf (.ref sa)), .pu shD, .pu (cntD []), .pu (.leaf (.int 2)), .pu (.seq true ([w0, w1, w2, w3].map sD)), .pu (.seq true [sD w0, sD w1]), .ow (.seq true []), .pu (.seq true [sD w2, sD w3]), .un]) rfl ?_)
      refine seq_i (lfS_i (o := .nx [.pu (.leaf (.ref sa)), .pu shD, .pu (cntD []), .pu (.leaf (.int 2)), .pu (.seq true ([w0, w1, w2, w3].map sD)), .pu (.seq true [sD w0, sD w1]), .ow (.seq true []), .pu (.seq true [sD w2, sD w3]), .un]) (for_c rfl rfl) ?_)
      refine seq_i (if_i (and_i (lf_i (d := false) rfl (iF (iF (lfS_i (o := .nx [.pu (.leaf (.ref sa)), .pu shD, .pu (cntD []), .pu (.leaf (.int 2)), .pu (.seq true ([w0, w1, w2, w3].map sD)), .pu (.seq true [sD w0, sD w1]), .ow (.seq true []), .pu (.seq true [sD w2, sD w3]), .un]) rfl ?_))))))
      refine lfS_i (o := .rt (wD [] [w0, w1] [w2, w3])) rfl (k [] [w0, w1] [w2, w3] _ ⟨fun p hp => ?_, fun x hx => ?_, hn.sublist (show ([w0, w1] : List Str).Sublist _ from (.cons₂ w0 (.cons₂ w1 (.cons w2 (.cons w3 .slnil))))), by show 2 ≤ 3; decide, by show 2 ≤ 2; decide, by show 1 ≤ 2; decide⟩ rfl (hn.sublist (show ([w2, w3] : List Str).Sublist _ from (.cons w0 (.cons w1 (.cons₂ w2 (.cons₂ w3 .slnil)))))) (fun x hx => (hg x ((show ([w2, w3] : List Str).Sublist _ from (.cons w0 (.cons w1 (.cons₂ w2 (.cons₂ w3 .slnil))))).subset hx)).1) (by omega))
      · exact (List.not_mem_nil hp).elim
      · have := (show ([w0, w1] : List Str).Sublist [w0, w1, w2, w3] from (.cons₂ w0 (.cons₂ w1 (.cons w2 (.cons w3 .slnil))))).subset hx
        exact ⟨(hg x this).1, (hg x this).2⟩
  · refine ⟨_, rfl, seq_i (set_p (call_i (cons_i rfl (cons_i (d := .leaf (.int ((7 : Nat) : Int))) rfl (nil_i (words_ok (by decide) (by omega) fun ws hl hn hg => ?_))))))⟩
    match ws, hl with
    | [w0, w1, w2, w3, w4, w5, w6], _ =>
      refine seq_i (par2_i (svP_i (lf_i (d := .seq true [sD w0, sD w1, sD w2]) rfl (svO_i (lf_i (d := .seq true []) rfl ⟨rfl, ?_⟩)))))
      refine seq_i (lfS_i (o := .nx [.pu (.leaf (.ref sa)), .pu shD, .pu (cntD [2]), .pu (.leaf (.int 2)), .pu (.seq true ([w0, w1, w2, w3, w4, w5, w6].map sD)), .pu (.seq true [sD w0, sD w1, sD w2]), .ow (.seq true []), .pu (.seq true [sD w3, sD w4, sD w5, sD w6]), .un]) rfl ?_)
      refine seq_i (lfS_i (o := .nx [.pu (.leaf (.ref sa)), .pu shD, .pu (cntD [2]), .pu (.leaf (.int 2)), .pu (.seq true ([w0, w1, w2, w3, w4, w5, w6].map sD)), .pu (.seq true [sD w0, sD w1, sD w2]), .ow (.seq true [.seq false [sD w3, sD w4]]), .pu (.seq true [sD w5, sD w6]), .pu (.leaf (.int 2))]) (for_c rfl (loop_c (ρ1 := [.pu (.leaf (.ref sa)), .pu shD, .pu (cntD [2]), .pu (.leaf (.int 2)), .pu (.seq true ([w0, w1, w2, w3, w4, w5, w6].map sD)), .pu (.seq true [sD w0, sD w1, sD w2]), .ow (.seq true []), .pu (.seq true [sD w3, sD w4, sD w5, sD w6]), .pu (.leaf (.int 2))]) (ρ2 := [.pu (.leaf (.ref sa)), .pu shD, .pu (cntD [2]), .pu (.leaf (.int 2)), .pu (.seq true ([w0, w1, w2, w3, w4, w5, w6].map sD)), .pu (.seq true [sD w0, sD w1, sD w2]), .ow (.seq true [.seq false [sD w3, sD w4]]), .pu (.seq true [sD w5, sD w6]), .pu (.leaf (.int 2))]) rfl rfl rfl)) ?_)
      refine seq_i (if_i (and_i (lf_i (d := false) rfl (iF (iF (lfS_i (o := .nx [.pu (.leaf (.ref sa)), .pu shD, .pu (cntD [2]), .pu (.leaf (.int 2)), .pu (.seq true ([w0, w1, w2, w3, w4, w5, w6].map sD)), .pu (.seq true [sD w0, sD w1, sD w2]), .ow (.seq true [.seq false [sD w3, sD w4]]), .pu (.seq true [sD w5, sD w6]), .pu (.leaf (.int 2))]) rfl ?_))))))
      refine lfS_i (o := .rt (wD [(w0, [w3, w4])] [w1, w2] [w5, w6])) rfl (k [(w0, [w3, w4])] [w1, w2] [w5, w6] _ ⟨fun p hp => ?_, fun x hx => ?_, hn.sublist (show ([w0, w1, w2] : List Str).Sublist _ from (.cons₂ w0 (.cons₂ w1 (.cons₂ w2 (.cons w3 (.cons w4 (.cons w5 (.cons w6 .slnil)))))))), by show 3 ≤ 3; decide, by show 2 ≤ 2; decide, by show 1 ≤ 3; decide⟩ rfl (hn.sublist (show ([w5, w6] : List Str).Sublist _ from (.cons w0 (.cons w1 (.cons w2 (.cons w3 (.cons w4 (.cons₂ w5 (.cons₂ w6 .slnil))))))))) (fun x hx => (hg x ((show ([w5, w6] : List Str).Sublist _ from (.cons w0 (.cons w1 (.cons w2 (.cons w3 (.cons w4 (.cons₂ w5 (.cons₂ w6 .slnil)))))))).subset hx)).1) (by omega))
      · rcases List.mem_cons.mp hp with rfl | hp
        · exact ⟨nm_sub (x := w0) (.cons₂ w0 (.cons w1 (.cons w2 (.cons w3 (.cons w4 (.cons w5 (.cons w6 .slnil))))))) hg, vals_sub (ys := [w3, w4]) (.cons w0 (.cons w1 (.cons w2 (.cons₂ w3 (.cons₂ w4 (.cons w5 (.cons w6 .slnil))))))) hn hg (by show 1 ≤ 2; decide) (by show 2 ≤ 3; decide)⟩
        exact (List.not_mem_nil hp).elim
      · have := (show ([w1, w2] : List Str).Sublist [w0, w1, w2, w3, w4, w5, w6] from (.cons w0 (.cons₂ w1 (.cons₂ w2 (.cons w3 (.cons w4 (.cons w5 (.cons w6 .slnil)))))))).subset hx
        exact ⟨(hg x this).1, (hg x this).2⟩
  · refine ⟨_, rfl, seq_i (set_p (call_i (cons_i rfl (cons_i (d := .leaf (.int ((6 : Nat) : Int))) rfl (nil_i (words_ok (by decide) (by omega) fun ws hl hn hg => ?_))))))⟩
    match ws, hl with
    | [w0, w1, w2, w3, w4, w5], _ =>
      refine seq_i (par2_i (svP_i (lf_i (d := .seq true [sD w0]) rfl (svO_i (lf_i (d := .seq true []) rfl ⟨rfl, ?_⟩)))))
      refine seq_i (lfS_i (o := .nx [.pu (.leaf (.ref sa)), .pu shD, .pu (cntD [3]), .pu (.leaf (.int 0)), .pu (.seq true ([w0, w1, w2, w3, w4, w5].map sD)), .pu (.seq true [sD w0]), .ow (.seq true []), .pu (.seq true [sD w1, sD w2, sD w3, sD w4, sD w5]), .un]) rfl ?_)
      refine seq_i (lfS_i (o := .nx [.pu (.leaf (.ref sa)), .pu shD, .pu (cntD [3]), .pu (.leaf (.int 0)), .pu (.seq true ([w0, w1, w2, w3, w4, w5].map sD)), .pu (.seq true [sD w0]), .ow (.seq true [.seq false [sD w1, sD w2, sD w3]]), .pu (.seq true [sD w4, sD w5]), .pu (.leaf (.int 3))]) (for_c rfl (loop_c (ρ1 := [.pu (.leaf (.ref sa)), .pu shD, .pu (cntD [3]), .pu (.leaf (.int 0)), .pu (.seq true ([w0, w1, w2, w3, w4, w5].map sD)), .pu (.seq true [sD w0]), .ow (.seq true []), .pu (.seq true [sD w1, sD w2, sD w3, sD w4, sD w5]), .pu (.leaf (.int 3))]) (ρ2 := [.pu (.leaf (.ref sa)), .pu shD, .pu (cntD [3]), .pu (.leaf (.int 0)), .pu (.seq true ([w0, w1, w2, w3, w4, w5].map sD)), .pu (.seq true [sD w0]), .ow (.seq true [.seq false [sD w1, sD w2, sD w3]]), .pu (.seq true [sD w4, sD w5]), .pu (.leaf (.int 3))]) rfl rfl rfl)) ?_)
      refine seq_i (if_i (and_i (lf_i (d := false) rfl (iF (iF (lfS_i (o := .nx [.pu (.leaf (.ref sa)), .pu shD, .pu (cntD [3]), .pu (.leaf (.int 0)), .pu (.seq true ([w0, w1, w2, w3, w4, w5].map sD)), .pu (.seq true [sD w0]), .ow (.seq true [.seq false [sD w1, sD w2, sD w3]]), .pu (.seq true [sD w4, sD w5]), .pu (.leaf (.int 3))]) rfl ?_))))))
      refine lfS_i (o := .rt (wD [(w0, [w1, w2, w3])] [] [w4, w5])) rfl (k [(w0, [w1, w2, w3])] [] [w4, w5] _ ⟨fun p hp => ?_, fun x hx => ?_, hn.sublist (show ([w0] : List Str).Sublist _ from (.cons₂ w0 (.cons w1 (.cons w2 (.cons w3 (.cons w4 (.cons w5 .slnil))))))), by show 1 ≤ 3; decide, by show 0 ≤ 2; decide, by show 1 ≤ 1; decide⟩ rfl (hn.sublist (show ([w4, w5] : List Str).Sublist _ from (.cons w0 (.cons w1 (.cons w2 (.cons w3 (.cons₂ w4 (.cons₂ w5 .slnil)))))))) (fun x hx => (hg x ((show ([w4, w5] : List Str).Sublist _ from (.cons w0 (.cons w1 (.cons w2 (.cons w3 (.cons₂ w4 (.cons₂ w5 .slnil))))))).subset hx)).1) (by omega))
      · rcases List.mem_cons.mp hp with rfl | hp
        · exact ⟨nm_sub (x := w0) (.cons₂ w0 (.cons w1 (.cons w2 (.cons w3 (.cons w4 (.cons w5 .slnil)))))) hg, vals_sub (ys := [w1, w2, w3]) (.cons w0 (.cons₂ w1 (.cons₂ w2 (.cons₂ w3 (.cons w4 (.cons w5 .slnil)))))) hn hg (by show 1 ≤ 3; decide) (by show 3 ≤ 3; decide)⟩
        exact (List.not_mem_nil hp).elim
      · have := (show ([] : List Str).Sublist [w0, w1, w2, w3, w4, w5] from (.cons w0 (.cons w1 (.cons w2 (.cons w3 (.cons w4 (.cons w5 .slnil))))))).subset hx
        exact ⟨(hg x this).1, (hg x this).2⟩
end L2.K1

namespace L2.K1
open PySem PySem.Spec PyProof.Rows L2.Tr
/-! the columns of a world -/
theorem zipw_ok {ps : List (Str × List Str)} {xs named : List Str} {ρ : L2.Tr.Env} (h0 : atP 0 ρ = some (wD ps xs named)) : zipF (bin2 dgD (atP 0) (kD (.leaf (.str "names")))) (bin2 dgD (atP 0) (kD (.leaf (.str "values")))) ρ = some (pairsOf ps xs) := by
  unfold zipF
  rw [bin_2 (d := .seq true ((keysOf ps xs).map sD)) (e := .seq true (valsOf ps xs)) (by rw [bin_2 h0 (e := .leaf (.str "names")) rfl]; rfl) (by rw [bin_2 h0 (e := .leaf (.str "values")) rfl]; rfl)]
  show (if true = true then some (zipL ((keysOf ps xs).map sD) (valsOf ps xs)) else none) = _
  rw [if_pos rfl, zip_w]
theorem pairs_len {ps : List (Str × List Str)} {xs : List Str} (h : Cols ps xs) : (pairsOf ps xs).length ≤ Lim := by
  unfold pairsOf csOf
  rw [List.length_map, List.length_append, List.length_map, List.length_map]
  have := h.l3
  have : Lim = 5000 := rfl
  omega
def toldT (ps : List (Str × List Str)) : List D := ps.map fun p => .seq false [sD p.1, .seq false (p.2.map sD)]
theorem paired_told : ∀ ps : List (Str × List Str), Paired PairIs (toldT ps) ps
  | [] => .nil
  | p :: ps => .cons ⟨false, false, rfl⟩ (paired_told ps)
theorem colsOf_ok {C : Addr} {ps : List (Str × List Str)} {xs named : List Str} (h : Cols ps xs) : fColsOf C (fInit C) [wD ps xs named] = some (colV C ps xs) := by
  show runF nColsOf.length (FColsOf C (fInit C)) [wD ps xs named] = _
  refine run_rt ?_
  have e1 : (mapS (lcF [2, 3] (zipF (bin2 dgD (atP 0) (kD (.leaf (.str "names")))) (bin2 dgD (atP 0) (kD (.leaf (.str "values"))))) (tupT 2 (consT (setF 2) (consT (setF 3) nilT))) (asBF (bin2 (isN true) (atP 3) (kD (.leaf .non)))) (tupDisp (consD (atP 2) (consD (atP 3) nilD))))) [.pu (wD ps xs named), .un, .un, .un] = some (.seq true (toldT ps)) := by
    refine maps_ ?_
    rw [lc_ (zipw_ok rfl) (pairs_len h)]
    rw [comp_flt (p := fun d => match d with
      | .seq false [_, .leaf .non] => false
      | _ => true) (g := fun d => d) fun d hd => ?_]
    · unfold pairsOf csOf
      rw [List.map_append, List.filter_append, List.map_append]
      have a1 : ((List.map itemD (ps.map fun p => (p.1, some p.2))).filter fun d => match d with
        | .seq false [_, .leaf .non] => false
        | _ => true) = List.map itemD (ps.map fun p => (p.1, some p.2)) := by
        rw [List.filter_eq_self]
        intro d hd
        obtain ⟨c, hc, rfl⟩ := List.mem_map.mp hd
        obtain ⟨p, hp, rfl⟩ := List.mem_map.mp hc
        rfl
      have a2 : ((List.map itemD (xs.map fun x => (x, none))).filter fun d => match d with
        | .seq false [_, .leaf .non] => false
        | _ => true) = [] := by
        rw [List.filter_eq_nil_iff]
        intro d hd
        obtain ⟨c, hc, rfl⟩ := List.mem_map.mp hd
        obtain ⟨p, hp, rfl⟩ := List.mem_map.mp hc
        exact Bool.false_ne_true
      rw [a1, a2, List.map_map, List.map_map, List.map_nil, List.append_nil]
      rfl
    · unfold pairsOf at hd
      obtain ⟨⟨c, o⟩, hc, rfl⟩ := List.mem_map.mp hd
      cases o with
      | none => exact ⟨_, rfl, rfl, fun z => absurd z (by show ¬ (false = true); decide)⟩
      | some ys => exact ⟨_, rfl, rfl, fun _ => rfl⟩
  have e2 : (mapS (lcF [2, 3] (zipF (bin2 dgD (atP 0) (kD (.leaf (.str "names")))) (bin2 dgD (atP 0) (kD (.leaf (.str "values"))))) (tupT 2 (consT (setF 2) (consT (setF 3) nilT))) (asBF (bin2 (isN false) (atP 3) (kD (.leaf .non)))) (atP 2))) [.pu (wD ps xs named), .pu (.seq true (toldT ps)), .un, .un] = some (.seq true (xs.map sD)) := by
    refine maps_ ?_
    rw [lc_ (zipw_ok rfl) (pairs_len h)]
    rw [comp_flt (p := fun d => match d with
      | .seq false [_, .leaf .non] => true
      | _ => false) (g := fun d => match d with
      | .seq false [n, _] => n
      | _ => .leaf .non) fun d hd => ?_]
    · unfold pairsOf csOf
      rw [List.map_append, List.filter_append, List.map_append]
      have a1 : ((List.map itemD (ps.map fun p => (p.1, some p.2))).filter fun d => match d with
        | .seq false [_, .leaf .non] => true
        | _ => false) = [] := by
        rw [List.filter_eq_nil_iff]
        intro d hd
        obtain ⟨c, hc, rfl⟩ := List.mem_map.mp hd
        obtain ⟨p, hp, rfl⟩ := List.mem_map.mp hc
        exact Bool.false_ne_true
      have a2 : ((List.map itemD (xs.map fun x => (x, none))).filter fun d => match d with
        | .seq false [_, .leaf .non] => true
        | _ => false) = List.map itemD (xs.map fun x => (x, none)) := by
        rw [List.filter_eq_self]
        intro d hd
        obtain ⟨c, hc, rfl⟩ := List.mem_map.mp hd
        obtain ⟨p, hp, rfl⟩ := List.mem_map.mp hc
        rfl
      rw [a1, a2, List.map_map, List.map_map]
      rfl
    · unfold pairsOf at hd
      obtain ⟨⟨c, o⟩, hc, rfl⟩ := List.mem_map.mp hd
      cases o with
      | none => exact ⟨_, rfl, rfl, fun _ => rfl⟩
      | some ys => exact ⟨_, rfl, rfl, fun z => absurd z (by show ¬ (false = true); decide)⟩
  show FColsOf C (fInit C) [.pu (wD ps xs named), .un, .un, .un] = _
  refine (seq_nx (asg_ e1)).trans (ret_f ?_)
  show app1 (mkD C (fInit C)) _ [.pu (wD ps xs named), .pu (.seq true (toldT ps)), .un, .un] = _
  rw [app_2 (d := .seq true (toldT ps)) rfl e2]
  exact init_ok h (paired_told ps)
end L2.K1

namespace L2.K1
open PySem PySem.Spec PyProof.Rows L2.Tr
/-! axes: how many points they have -/
abbrev iD (i : Int) : D := .leaf (.int i)
def FCntB : L2.Tr.Env → Option Out := asgF (bin2 mulD (atP 1) (app1 lenA (consD (atP 2) nilD))) (setF 1)
def axD (as : List (List D)) : List D := as.map (D.seq false)
def prodL (as : List (List D)) : Nat := as.foldl (fun c a => c * a.length) 1
theorem mul_ok {i : Int} {j : Nat} (h : j < 2 ^ 64) : mulD (iD i) (iD (j : Int)) = some (iD (i * j)) := by
  unfold mulD
  show ite _ _ _ = _
  rw [if_pos ⟨by omega, by omega⟩]
theorem cnt_loop {A : Sl} : ∀ (as : List (List D)) (c : Nat) (s2 : Sl), (∀ a ∈ as, a.length < 2 ^ 64) → ∃ t2, loopF (setF 2) FCntB (axD as) [A, .pu (iD c), s2] = some (.nx [A, .pu (iD (as.foldl (fun c a => c * a.length) c : Nat)), t2])
  | [], c, s2, _ => ⟨s2, rfl⟩
  | a :: as, c, s2, hl => by
    obtain ⟨t2, h⟩ := cnt_loop (A := A) as (c * a.length) (.pu (.seq false a)) fun x hx => hl x (List.mem_cons_of_mem _ hx)
    refine ⟨t2, loop_c (ρ1 := [A, .pu (iD c), .pu (.seq false a)]) (ρ2 := [A, .pu (iD ((c * a.length : Nat) : Int)), .pu (.seq false a)]) rfl (asg_ ?_) h⟩
    rw [bin_2 (d := iD c) (e := iD (a.length : Int)) rfl rfl, mul_ok (hl a List.mem_cons_self)]
    rw [Int.natCast_mul]
theorem count_ok {b : Bool} {as : List (List D)} (hl : ∀ a ∈ as, a.length < 2 ^ 64) : fCount [.seq b (axD as)] = some (iD (prodL as : Nat)) := by
  obtain ⟨t2, h⟩ := cnt_loop (A := .pu (.seq b (axD as))) as 1 .un hl
  show runF nCount.length FCount [.seq b (axD as)] = _
  refine run_rt ?_
  show FCount [.pu (.seq b (axD as)), .un, .un] = _
  exact (seq_nx (asg_ (d := iD 1) rfl)).trans ((seq_nx (for_c (ds := axD as) rfl h)).trans (ret_f rfl))
/-! axes of one thing each -/
def ax1 (ds : List D) : List D := axD (ds.map fun d => [d])
theorem prod_one : ∀ (ds : List D) (c : Nat), (ds.map fun d => [d]).foldl (fun c (a : List D) => c * a.length) c = c
  | [], c => rfl
  | d :: ds, c => by
    show (ds.map fun d => [d]).foldl (fun c (a : List D) => c * a.length) (c * 1) = c
    rw [Nat.mul_one]; exact prod_one ds c
theorem count_one {b : Bool} (ds : List D) : fCount [.seq b (ax1 ds)] = some (iD 1) := by
  unfold ax1
  rw [count_ok fun a ha => by obtain ⟨d, _, rfl⟩ := List.mem_map.mp ha; show 1 < 2 ^ 64; decide]
  unfold prodL
  rw [prod_one]; rfl
theorem ax1_get {ds : List D} {j : Nat} {d : D} (h : ds[j]? = some d) : (ax1 ds)[j]? = some (.seq false [d]) := by
  unfold ax1 axD
  rw [List.getElem?_map, List.getElem?_map, h]; rfl
theorem ax1_drop (ds : List D) (k : Nat) : (ax1 ds).drop k = ax1 (ds.drop k) := by unfold ax1 axD; rw [List.map_drop, List.map_drop]
theorem ax1_take (ds : List D) (k : Nat) : (ax1 ds).take k = ax1 (ds.take k) := by unfold ax1 axD; rw [List.map_take, List.map_take]
theorem sl_mid {φ : L2.Tr.Env → Option D} {ρ : L2.Tr.Env} {xs : List D} {i j : Nat} {ψ : L2.Tr.Env → Option D} {lo hi : L2.Tr.Env → Option (Option Int)} (h : φ ρ = some (.seq true xs)) (hi1 : lo ρ = some (some (i : Int))) (hk : hi ρ = some (some (j : Int))) :
    orE (mapS (slF slO φ lo hi)) ψ ρ = some (.seq true (L2.Tr.cutD xs (some i) (some j))) := by
  unfold orE mapS slF
  rw [h, Option.bind_some, hi1, Option.bind_some, hk]
  rfl
theorem add_int (i j : Int) : addD (iD i) (iD j) = some (iD (i + j)) := rfl
theorem part_ {φ : L2.Tr.Env → Option D} {ρ : L2.Tr.Env} {i : Int} (h : φ ρ = some (iD i)) : partF φ ρ = some (some i) := by
  show ((φ ρ).bind asI).map some = _
  rw [h]; rfl
theorem mulS_one (x : Str) (h : x.length ≤ 1000) : mulSD (sD x) (iD 1) = some (sD x) := by
  unfold mulSD
  show ite _ _ _ = _
  rw [if_pos ⟨by decide, by decide, by show x.length * 1 ≤ 1000; omega, h⟩, show (1 : Int).toNat = 1 from rfl, repS1]
theorem join_one (x : Str) (h : x.length ≤ 1000) : joinD (sD "") (.seq true [sD x]) = some (sD x) := by
  have e : Txt.join ("" : Str) [x] = x := by
    show (⟨_⟩ : Str) = x
    simp [Txt.join]
  show ((strsD [sD x]).bind fun ys => if (ys.map (·.length)).sum + ys.length * ("" : Str).length ≤ 16777216 ∧ (Txt.join "" ys).length ≤ 1000 then some (D.leaf (.str (Txt.join "" ys))) else none) = _
  show (if ([x].map (·.length)).sum + [x].length * ("" : Str).length ≤ 16777216 ∧ (Txt.join "" [x]).length ≤ 1000 then some (D.leaf (.str (Txt.join "" [x]))) else none) = _
  rw [e, if_pos ⟨by show (x.length + 0) + 1 * 0 ≤ 16777216; omega, h⟩]
/-! what is found of one row -/
def bI (b : Bool) : D := iD (if b then 1 else 0)
theorem int2_ok (m : Bool) : int2D [sD (binS m), iD 2] = some (bI m) := by cases m <;> rfl
theorem bs_len (m : Bool) : (binS m).length ≤ 1000 := by cases m <;> decide
theorem fin_ok {ds : List D} {j : Nat} {d : D} {b : Bool} {ts : List D} {m : Bool} (hj : ds[j]? = some d) (hm : inD false d (.seq b ts) = some (bD m)) : fFIn [.seq true (ax1 ds), iD (j : Int), .seq b ts] = some (bI m) := by
  show runF nFIn.length FFIn [.seq true (ax1 ds), iD (j : Int), .seq b ts] = _
  refine run_rt ?_
  show FFIn [.pu (.seq true (ax1 ds)), .pu (iD (j : Int)), .pu (.seq b ts), .un, .un, .un] = _
  unfold FFIn
  have e1 := (sl_from (φ := atP 0) (ρ := [.pu (.seq true (ax1 ds)), .pu (iD (j : Int)), .pu (.seq b ts), .un, .un, .un]) (k := j + 1) (lo := partF (bin2 addD (atP 1) (kD (.leaf (.int 1))))) (ψ := slF slT (atP 0) (partF (bin2 addD (atP 1) (kD (.leaf (.int 1))))) (fun _ => some none)) rfl (part_ (by rw [bin_2 (d := iD j) (e := iD 1) rfl rfl, add_int]; rfl)))
  rw [ax1_drop] at e1
  refine (seq_nx (asg_ (d := iD 1) (by rw [app_1 e1, count_one]))).trans ?_
  show seqF _ _ [.pu (.seq true (ax1 ds)), .pu (iD (j : Int)), .pu (.seq b ts), .pu (iD 1), .un, .un] = _
  have e2 : lcF [5] (seqsF (bin2 ixD (atP 0) (atP 1))) (setF 5) yesF (ifF (asBF (bin2 (inD false) (atP 5) (atP 2))) (bin2 mulSD (kD (.leaf (.str "1"))) (atP 3)) (bin2 mulSD (kD (.leaf (.str "0"))) (atP 3))) [.pu (.seq true (ax1 ds)), .pu (iD (j : Int)), .pu (.seq b ts), .pu (iD 1), .un, .un] = some [sD (binS m)] := by
    have hx : bin2 ixD (atP 0) (atP 1) [.pu (.seq true (ax1 ds)), .pu (iD (j : Int)), .pu (.seq b ts), .pu (iD 1), .un, .un] = some (.seq false [d]) := by
      rw [bin_2 (d := .seq true (ax1 ds)) (e := iD j) rfl rfl]
      show atI (ax1 ds) (j : Nat) = _
      rw [L2.atI_nat (ax1_get hj)]
    rw [lc_ (ds := [d]) (by show (bin2 ixD (atP 0) (atP 1) _).bind _ = _; rw [hx]; rfl) (by show 1 ≤ Lim; decide)]
    rw [comp_map (g := fun _ => sD (binS m)) fun x hx => ?_]
    · rfl
    · rw [List.mem_singleton.mp hx]
      refine ⟨[.pu (.seq true (ax1 ds)), .pu (iD (j : Int)), .pu (.seq b ts), .pu (iD 1), .un, .pu d], rfl, rfl, ?_⟩
      have ht : asBF (bin2 (inD false) (atP 5) (atP 2)) [.pu (.seq true (ax1 ds)), .pu (iD (j : Int)), .pu (.seq b ts), .pu (iD 1), .un, .pu d] = some m := asB_ (by rw [bin_2 (d := d) (e := .seq b ts) rfl rfl, hm])
      unfold ifF
      rw [ht]
      cases m <;> rfl
  refine (seq_nx (asg_ (maps_ e2))).trans (ret_f ?_)
  show app1 int2D _ [.pu (.seq true (ax1 ds)), .pu (iD (j : Int)), .pu (.seq b ts), .pu (iD 1), .pu (.seq true [sD (binS m)]), .un] = _
  have e3 := (sl_to (φ := atP 0) (ρ := [.pu (.seq true (ax1 ds)), .pu (iD (j : Int)), .pu (.seq b ts), .pu (iD 1), .pu (.seq true [sD (binS m)]), .un]) (k := j) (hi := partF (atP 1)) (ψ := slF slT (atP 0) (fun _ => some none) (partF (atP 1))) rfl (part_ rfl))
  rw [ax1_take] at e3
  rw [app_2 (d := sD (binS m)) (e := iD 2) ?_ rfl, int2_ok]
  rw [bin_2 (d := sD (binS m)) (e := iD 1) ?_ (by rw [app_1 e3, count_one]), mulS_one _ (bs_len m)]
  rw [bin_2 (d := sD "") (e := .seq true [sD (binS m)]) rfl rfl, join_one _ (bs_len m)]
end L2.K1

namespace L2.K1
open PySem PySem.Spec PyProof.Rows L2.Tr
theorem cut_map {α β : Type} (f : α → β) (xs : List α) (lo hi : Option Int) : L2.Tr.cutD (xs.map f) lo hi = (L2.Tr.cutD xs lo hi).map f := by
  unfold L2.Tr.cutD
  rw [List.length_map, List.map_take, List.map_drop]
theorem ax1_cut (ds : List D) (lo hi : Option Int) : L2.Tr.cutD (ax1 ds) lo hi = ax1 (L2.Tr.cutD ds lo hi) := by unfold ax1 axD; rw [cut_map, cut_map]
theorem fsame_ok {ds : List D} {i j : Nat} {d e : D} {m : Bool} (hi : ds[i]? = some d) (hj : ds[j]? = some e) (hm : scD false d e = some (bD m)) : fFSame [.seq true (ax1 ds), iD (i : Int), iD (j : Int)] = some (bI m) := by
  show runF nFSame.length FFSame [.seq true (ax1 ds), iD (i : Int), iD (j : Int)] = _
  refine run_rt ?_
  show FFSame [.pu (.seq true (ax1 ds)), .pu (iD (i : Int)), .pu (iD (j : Int)), .un, .un, .un, .un, .un] = _
  unfold FFSame
  have e0 := (sl_mid (φ := atP 0) (ρ := [.pu (.seq true (ax1 ds)), .pu (iD (i : Int)), .pu (iD (j : Int)), .un, .un, .un, .un, .un]) (i := i + 1) (j := j) (lo := partF (bin2 addD (atP 1) (kD (.leaf (.int 1))))) (hi := partF (atP 2)) (ψ := slF slT (atP 0) (partF (bin2 addD (atP 1) (kD (.leaf (.int 1))))) (partF (atP 2))) rfl (part_ (by rw [bin_2 (d := iD i) (e := iD 1) rfl rfl, add_int]; rfl)) (part_ rfl))
  have e1 := (sl_from (φ := atP 0) (ρ := [.pu (.seq true (ax1 ds)), .pu (iD (i : Int)), .pu (iD (j : Int)), .un, .un, .un, .un, .un]) (k := j + 1) (lo := partF (bin2 addD (atP 2) (kD (.leaf (.int 1))))) (ψ := slF slT (atP 0) (partF (bin2 addD (atP 2) (kD (.leaf (.int 1))))) (fun _ => some none)) rfl (part_ (by rw [bin_2 (d := iD j) (e := iD 1) rfl rfl, add_int]; rfl)))
  rw [ax1_cut] at e0
  rw [ax1_drop] at e1
  have ea : app1 fCount (consD (orE (mapS (slF slO (atP 0) (partF (bin2 addD (atP 1) (kD (.leaf (.int 1))))) (partF (atP 2)))) (slF slT (atP 0) (partF (bin2 addD (atP 1) (kD (.leaf (.int 1))))) (partF (atP 2)))) nilD) [.pu (.seq true (ax1 ds)), .pu (iD (i : Int)), .pu (iD (j : Int)), .un, .un, .un, .un, .un] = some (iD 1) := by rw [app_1 e0, count_one]
  have eb : app1 fCount (consD (orE (mapS (slF slO (atP 0) (partF (bin2 addD (atP 2) (kD (.leaf (.int 1))))) (fun _ => some none))) (slF slT (atP 0) (partF (bin2 addD (atP 2) (kD (.leaf (.int 1))))) (fun _ => some none))) nilD) [.pu (.seq true (ax1 ds)), .pu (iD (i : Int)), .pu (iD (j : Int)), .un, .un, .un, .un, .un] = some (iD 1) := by rw [app_1 e1, count_one]
  have hLim : Lim = 5000 := rfl
  refine (seq_nx (ρ2 := [.pu (.seq true (ax1 ds)), .pu (iD (i : Int)), .pu (iD (j : Int)), .pu (iD 1), .pu (iD 1), .un, .un, .un]) ?_).trans ?_
  · unfold asgF
    have : tupDisp (consD (app1 fCount (consD (orE (mapS (slF slO (atP 0) (partF (bin2 addD (atP 1) (kD (.leaf (.int 1))))) (partF (atP 2)))) (slF slT (atP 0) (partF (bin2 addD (atP 1) (kD (.leaf (.int 1))))) (partF (atP 2)))) nilD)) (consD (app1 fCount (consD (orE (mapS (slF slO (atP 0) (partF (bin2 addD (atP 2) (kD (.leaf (.int 1))))) (fun _ => some none))) (slF slT (atP 0) (partF (bin2 addD (atP 2) (kD (.leaf (.int 1))))) (fun _ => some none))) nilD)) nilD)) [.pu (.seq true (ax1 ds)), .pu (iD (i : Int)), .pu (iD (j : Int)), .un, .un, .un, .un, .un] = some (.seq false [iD 1, iD 1]) := by
      show (consD _ _ _).bind _ = _
      rw [cons_ ea (cons_ eb rfl)]
      rfl
    rw [this]
    rfl
  have ix : ∀ {k : Nat} {x : D} {q : Nat} {ρ : L2.Tr.Env} (h0 : atP 0 ρ = some (.seq true (ax1 ds))) (hq : atP q ρ = some (iD (k : Int))) (hk : ds[k]? = some x), bin2 ixD (atP 0) (atP q) ρ = some (.seq false [x]) := fun {k x q ρ} h0 hq hk => by
    rw [bin_2 h0 hq]
    show atI (ax1 ds) (k : Nat) = _
    rw [L2.atI_nat (ax1_get hk)]
  have e2 : lcF [6] (seqsF (bin2 ixD (atP 0) (atP 1))) (setF 6) yesF (bin2 mulSD (bin2 joinD (kD (.leaf (.str ""))) (mapS (lcF [7] (seqsF (bin2 ixD (atP 0) (atP 2))) (setF 7) yesF (ifF (asBF (bin2 (scD false) (atP 6) (atP 7))) (bin2 mulSD (kD (.leaf (.str "1"))) (atP 4)) (bin2 mulSD (kD (.leaf (.str "0"))) (atP 4)))))) (atP 3)) [.pu (.seq true (ax1 ds)), .pu (iD (i : Int)), .pu (iD (j : Int)), .pu (iD 1), .pu (iD 1), .un, .un, .un] = some [sD (binS m)] := by
    rw [lc_ (ds := [d]) (by show (bin2 ixD (atP 0) (atP 1) _).bind _ = _; rw [ix rfl rfl hi]; rfl) (by show 1 ≤ Lim; decide)]
    rw [comp_map (g := fun _ => sD (binS m)) fun x hx => ?_]
    · rfl
    · rw [List.mem_singleton.mp hx]
      refine ⟨[.pu (.seq true (ax1 ds)), .pu (iD (i : Int)), .pu (iD (j : Int)), .pu (iD 1), .pu (iD 1), .un, .pu d, .un], rfl, rfl, ?_⟩
      have e3 : lcF [7] (seqsF (bin2 ixD (atP 0) (atP 2))) (setF 7) yesF (ifF (asBF (bin2 (scD false) (atP 6) (atP 7))) (bin2 mulSD (kD (.leaf (.str "1"))) (atP 4)) (bin2 mulSD (kD (.leaf (.str "0"))) (atP 4))) [.pu (.seq true (ax1 ds)), .pu (iD (i : Int)), .pu (iD (j : Int)), .pu (iD 1), .pu (iD 1), .un, .pu d, .un] = some [sD (binS m)] := by
        rw [lc_ (ds := [e]) (by show (bin2 ixD (atP 0) (atP 2) _).bind _ = _; rw [ix rfl rfl hj]; rfl) (by show 1 ≤ Lim; decide)]
        rw [comp_map (g := fun _ => sD (binS m)) fun x hx => ?_]
        · rfl
        · rw [List.mem_singleton.mp hx]
          refine ⟨[.pu (.seq true (ax1 ds)), .pu (iD (i : Int)), .pu (iD (j : Int)), .pu (iD 1), .pu (iD 1), .un, .pu d, .pu e], rfl, rfl, ?_⟩
          have ht : asBF (bin2 (scD false) (atP 6) (atP 7)) [.pu (.seq true (ax1 ds)), .pu (iD (i : Int)), .pu (iD (j : Int)), .pu (iD 1), .pu (iD 1), .un, .pu d, .pu e] = some m := asB_ (by rw [bin_2 (d := d) (e := e) rfl rfl, hm])
          unfold ifF
          rw [ht]
          cases m <;> rfl
      rw [bin_2 (d := sD (binS m)) (e := iD 1) ?_ rfl, mulS_one _ (bs_len m)]
      rw [bin_2 (d := sD "") (e := .seq true [sD (binS m)]) rfl (maps_ e3), join_one _ (bs_len m)]
  refine (seq_nx (asg_ (maps_ e2))).trans (ret_f ?_)
  show app1 int2D _ [.pu (.seq true (ax1 ds)), .pu (iD (i : Int)), .pu (iD (j : Int)), .pu (iD 1), .pu (iD 1), .pu (.seq true [sD (binS m)]), .un, .un] = _
  have e3 := (sl_to (φ := atP 0) (ρ := [.pu (.seq true (ax1 ds)), .pu (iD (i : Int)), .pu (iD (j : Int)), .pu (iD 1), .pu (iD 1), .pu (.seq true [sD (binS m)]), .un, .un]) (k := i) (hi := partF (atP 1)) (ψ := slF slT (atP 0) (fun _ => some none) (partF (atP 1))) rfl (part_ rfl))
  rw [ax1_take] at e3
  rw [app_2 (d := sD (binS m)) (e := iD 2) ?_ rfl, int2_ok]
  rw [bin_2 (d := sD (binS m)) (e := iD 1) ?_ (by rw [app_1 e3, count_one]), mulS_one _ (bs_len m)]
  rw [bin_2 (d := sD "") (e := .seq true [sD (binS m)]) rfl rfl, join_one _ (bs_len m)]
end L2.K1

namespace L2.K1
open PySem PySem.Spec PyProof.Rows L2.Tr
/-! looks, as they are told; what they find of a row with a number; the steps of a look -/
inductive Op4 where
  | and
  | or
  | less
  | xor
inductive Lk where
  | has (x : Str) (ws : List Str)
  | same (x y : Str)
  | numb (ns : List Int)
  | every
  | not (l : Lk)
  | bin (o : Op4) (l m : Lk)
def pos (ks : List Str) (x : Str) : Nat := (idxS x ks).getD 0
theorem pos_at {ks : List Str} {x : Str} (h : x ∈ ks) : idxS x ks = some (pos ks x) ∧ ks[pos ks x]? = some x := by
  obtain ⟨j, e⟩ := idxS_mem h
  have : pos ks x = j := by unfold pos; rw [e]; rfl
  rw [this]
  exact ⟨e, (idxS_at e).1⟩
def nmT (x : Str) : D := .seq false [sD x]
def stepsOf (ks : List Str) : Lk → List D
  | .has x ws => [.seq false [sD "in", iD (pos ks x : Nat), .seq false (ws.map sD)]]
  | .same x y => [.seq false [sD "same", iD (pos ks x : Nat), iD (pos ks y : Nat)]]
  | .numb ns => [.seq false [sD "in", iD (ks.length : Nat), .seq false (ns.map iD)]]
  | .every => [nmT "any"]
  | .not l => stepsOf ks l ++ [nmT "not"]
  | .bin .and l m => stepsOf ks l ++ (stepsOf ks m ++ [nmT "and"])
  | .bin .or l m => stepsOf ks l ++ (stepsOf ks m ++ [nmT "or"])
  | .bin .less l m => stepsOf ks l ++ ((stepsOf ks m ++ [nmT "not"]) ++ [nmT "and"])
  | .bin .xor l m => (stepsOf ks l ++ (stepsOf ks m ++ [nmT "or"])) ++ (((stepsOf ks l ++ (stepsOf ks m ++ [nmT "and"])) ++ [nmT "not"]) ++ [nmT "and"])
def op4 : Op4 → Bool → Bool → Bool
  | .and, a, b => a && b
  | .or, a, b => a || b
  | .less, a, b => a && !b
  | .xor, a, b => xor a b
def sem (ks row : List Str) (n : Int) : Lk → Bool
  | .has x ws => decide (row.getD (pos ks x) "" ∈ ws)
  | .same x y => decide (row.getD (pos ks x) "" = row.getD (pos ks y) "")
  | .numb ns => decide (n ∈ ns)
  | .every => true
  | .not l => !sem ks row n l
  | .bin o l m => op4 o (sem ks row n l) (sem ks row n m)
/-- all names are known -/
def Named (ks : List Str) : Lk → Prop
  | .has x _ => x ∈ ks
  | .same x y => x ∈ ks ∧ y ∈ ks
  | .numb _ => True
  | .every => True
  | .not l => Named ks l
  | .bin _ l m => Named ks l ∧ Named ks m
theorem steps_pos {ks : List Str} : ∀ l : Lk, 1 ≤ (stepsOf ks l).length
  | .has x ws => Nat.le_refl 1
  | .same x y => Nat.le_refl 1
  | .numb ns => Nat.le_refl 1
  | .every => Nat.le_refl 1
  | .not l => by unfold stepsOf; rw [List.length_append]; exact Nat.le_add_left _ _
  | .bin .and l m => by unfold stepsOf; rw [List.length_append]; have := steps_pos (ks := ks) l; omega
  | .bin .or l m => by unfold stepsOf; rw [List.length_append]; have := steps_pos (ks := ks) l; omega
  | .bin .less l m => by unfold stepsOf; rw [List.length_append]; have := steps_pos (ks := ks) l; omega
  | .bin .xor l m => by unfold stepsOf; rw [List.length_append, List.length_append]; have := steps_pos (ks := ks) l; omega
theorem leaves_int (xs : List Int) : leaves (xs.map iD) = some (xs.map V.int) := by
  have : xs.map iD = (xs.map V.int).map D.leaf := by rw [List.map_map]; rfl
  rw [this, leaves_map]
  exact List.all_eq_true.mpr fun v hv => by obtain ⟨i, _, rfl⟩ := List.mem_map.mp hv; rfl
theorem inV_int (x : Int) : ∀ xs : List Int, inV (.int x) (xs.map V.int) = decide (x ∈ xs)
  | [] => rfl
  | y :: ys => by
    have ih := inV_int x ys
    unfold inV at ih ⊢
    have e : eqV (.int y) (.int x) = decide (y = x) := by unfold eqV; first | rfl | simp
    rw [List.map_cons, List.any_cons, ih, e]
    by_cases h : y = x
    · subst h; simp
    · have h2 : x ≠ y := fun z => h z.symm
      simp [h, h2]
theorem inD_int (neg b : Bool) (x : Int) (xs : List Int) : inD neg (iD x) (.seq b (xs.map iD)) = some (bD (xor neg (decide (x ∈ xs)))) := by
  show (leaves (xs.map iD)).map (fun vs => bD (xor neg (inV (.int x) vs))) = _
  rw [leaves_int]
  show some (bD (xor neg (inV (.int x) (xs.map V.int)))) = _
  rw [inV_int]
theorem sc_str (neg : Bool) (x y : Str) : scD neg (sD x) (sD y) = some (bD (xor neg (decide (x = y)))) := by
  show some (bD (xor neg (decide (V.str x = V.str y)))) = _
  congr 3
  exact decide_eq_decide.mpr ⟨fun z => V.str.inj z, fun z => by rw [z]⟩
/-! one step -/
def FB : L2.Tr.Env → Option Out := (seqF (asgF (bin2 ixD (atP 4) (kD (.leaf (.int 0)))) (setF 5)) (ifS (asBF (bin2 (scD false) (atP 5) (kD (.leaf (.str "in"))))) (growF 3 (app1 fFIn (consD (atP 1) (consD (bin2 ixD (atP 4) (kD (.leaf (.int 1)))) (consD (bin2 ixD (atP 4) (kD (.leaf (.int 2)))) nilD)))) fun xs d => xs ++ [d]) (ifS (asBF (bin2 (scD false) (atP 5) (kD (.leaf (.str "same"))))) (seqF (asgF (mapS (fun ρ => ((orE (mapS (slF slO (atP 4) (partF (kD (.leaf (.int 1)))) (fun _ => some none))) (slF slT (atP 4) (partF (kD (.leaf (.int 1)))) (fun _ => some none))) ρ).bind sortS)) (lstT 2 (consT (setF 6) (consT (setF 7) nilT)))) (growF 3 (app1 fFSame (consD (atP 1) (consD (atP 6) (consD (atP 7) nilD)))) fun xs d => xs ++ [d])) (ifS (asBF (bin2 (scD false) (atP 5) (kD (.leaf (.str "any"))))) (growF 3 (atP 2) fun xs d => xs ++ [d]) (ifS (asBF (bin2 (scD false) (atP 5) (kD (.leaf (.str "not"))))) (popLF 3 (fun i j => .int (Builtin.bitXor i j)) (atP 2)) (ifS (asBF (bin2 (scD false) (atP 5) (kD (.leaf (.str "and"))))) (popBF 3 (fun i j => .int (Builtin.bitAnd i j))) (popBF 3 (fun i j => .int (Builtin.bitOr i j)))))))))
theorem ifs_t {t : L2.Tr.Env → Option Bool} {Φ Ψ : L2.Tr.Env → Option Out} {ρ : L2.Tr.Env} (h : t ρ = some true) : ifS t Φ Ψ ρ = Φ ρ := by
  unfold ifS
  rw [h]; rfl
theorem ifs_f {t : L2.Tr.Env → Option Bool} {Φ Ψ : L2.Tr.Env → Option Out} {ρ : L2.Tr.Env} (h : t ρ = some false) : ifS t Φ Ψ ρ = Ψ ρ := by
  unfold ifS
  rw [h]; rfl
theorem grow_ {i : Nat} {φ : L2.Tr.Env → Option D} {ρ : L2.Tr.Env} {xs : List D} {d : D} (h : ρ[i]? = some (.ow (.seq true xs))) (h2 : φ ρ = some d) (hl : xs.length < 5000) : growF i φ (fun xs d => xs ++ [d]) ρ = some (.nx (ρ.set i (.ow (.seq true (xs ++ [d]))))) := by
  unfold growF
  rw [h]
  show ((φ ρ).bind fun d => if (xs ++ [d]).length ≤ Lim then some (Out.nx _) else none) = _
  rw [h2, Option.bind_some, if_pos (by rw [List.length_append]; have : [d].length = 1 := rfl; have : Lim = 5000 := rfl; omega)]
section
variable {A s5 s6 s7 : Sl} {ds xs : List D}
abbrev stE (A : Sl) (ds xs : List D) (s4 s5 s6 s7 : Sl) : L2.Tr.Env := [A, .pu (.seq true (ax1 ds)), .pu (iD 1), .ow (.seq true xs), s4, s5, s6, s7]
theorem kind_ {x : Str} {r : List D} : asgF (bin2 ixD (atP 4) (kD (.leaf (.int 0)))) (setF 5) (stE A ds xs (.pu (.seq false (sD x :: r))) s5 s6 s7) = some (.nx (stE A ds xs (.pu (.seq false (sD x :: r))) (.pu (sD x)) s6 s7)) := asg_ (by
  rw [bin_2 (d := .seq false (sD x :: r)) (e := iD 0) rfl rfl]
  exact ix_nat (b := false) (ds := sD x :: r) (j := 0) (Nat.succ_pos _))
theorem is_ {x y : Str} {s4 : Sl} : asBF (bin2 (scD false) (atP 5) (kD (.leaf (.str y)))) (stE A ds xs s4 (.pu (sD x)) s6 s7) = some (decide (x = y)) := asB_ (by rw [bin_2 (d := sD x) (e := sD y) rfl rfl, sc_str, Bool.false_xor])
theorem st_in {j : Nat} {b m : Bool} {d : D} {ts : List D} (hj : ds[j]? = some d) (hm : inD false d (.seq b ts) = some (bD m)) (hl : xs.length < 5000) :
    ∃ t5 t6 t7, FB (stE A ds xs (.pu (.seq false [sD "in", iD (j : Int), .seq b ts])) s5 s6 s7) = some (.nx (stE A ds (xs ++ [bI m]) (.pu (.seq false [sD "in", iD (j : Int), .seq b ts])) t5 t6 t7)) := by
  refine ⟨_, _, _, (seq_nx kind_).trans ((ifs_t is_).trans ((grow_ rfl ?_ hl).trans rfl))⟩
  rw [show app1 fFIn (consD (atP 1) (consD (bin2 ixD (atP 4) (kD (.leaf (.int 1)))) (consD (bin2 ixD (atP 4) (kD (.leaf (.int 2)))) nilD))) (stE A ds xs (.pu (.seq false [sD "in", iD (j : Int), .seq b ts])) (.pu (sD "in")) s6 s7) = fFIn [.seq true (ax1 ds), iD (j : Int), .seq b ts] from rfl]
  exact fin_ok hj hm
theorem up2 (i j : Nat) : (upI [(i : Int), (j : Int)]) = if i ≤ j then [(i : Int), (j : Int)] else [(j : Int), (i : Int)] := by
  unfold upI
  simp only [List.mergeSort, List.MergeSort.Internal.splitInTwo, List.merge]
  by_cases h : i ≤ j
  · rw [if_pos h]; simp [h]
  · rw [if_neg h]; simp [h]
theorem st_same {i j : Nat} {m : Bool} {x y : Str} (hi : ds[i]? = some (sD x)) (hj : ds[j]? = some (sD y)) (hm : m = decide (x = y)) (hl : xs.length < 5000) :
    ∃ t5 t6 t7, FB (stE A ds xs (.pu (.seq false [sD "same", iD (i : Int), iD (j : Int)])) s5 s6 s7) = some (.nx (stE A ds (xs ++ [bI m]) (.pu (.seq false [sD "same", iD (i : Int), iD (j : Int)])) t5 t6 t7)) := by
  have e : ∃ p q : Nat, (upI [(i : Int), (j : Int)]) = [(p : Int), (q : Int)] ∧ fFSame [.seq true (ax1 ds), iD (p : Int), iD (q : Int)] = some (bI m) := by
    rw [up2]
    by_cases h : i ≤ j
    · rw [if_pos h]; exact ⟨i, j, rfl, fsame_ok hi hj (by rw [sc_str, Bool.false_xor, hm])⟩
    · rw [if_neg h]; exact ⟨j, i, rfl, fsame_ok hj hi (by rw [sc_str, Bool.false_xor, hm]; congr 2; exact decide_eq_decide.mpr ⟨Eq.symm, Eq.symm⟩)⟩
  obtain ⟨p, q, e1, e2⟩ := e
  refine ⟨.pu (sD "same"), .pu (iD (p : Int)), .pu (iD (q : Int)), (seq_nx kind_).trans ((ifs_f is_).trans ((ifs_t is_).trans ((seq_nx (ρ2 := stE A ds xs (.pu (.seq false [sD "same", iD (i : Int), iD (j : Int)])) (.pu (sD "same")) (.pu (iD (p : Int))) (.pu (iD (q : Int)))) ?_).trans ((grow_ rfl e2 hl).trans rfl))))⟩
  have e3 : mapS (fun ρ => ((orE (mapS (slF slO (atP 4) (partF (kD (.leaf (.int 1)))) (fun _ => some none))) (slF slT (atP 4) (partF (kD (.leaf (.int 1)))) (fun _ => some none))) ρ).bind sortS) (stE A ds xs (.pu (.seq false [sD "same", iD (i : Int), iD (j : Int)])) (.pu (sD "same")) s6 s7) = some (.seq true [iD (p : Int), iD (q : Int)]) := by
    refine maps_ ?_
    show (some (D.seq false [iD (i : Int), iD (j : Int)])).bind sortS = _
    show ((intsOf ([(i : Int), (j : Int)].map L2.Tr.intD)).bind fun is => if is.length < 1000 then some ((upI is).map L2.Tr.intD) else none) = _
    rw [intsOf_map, Option.bind_some, if_pos (by show 2 < 1000; decide), e1]
    rfl
  unfold asgF
  rw [e3]
  rfl
theorem st_any (hl : xs.length < 5000) :
    ∃ t5 t6 t7, FB (stE A ds xs (.pu (nmT "any")) s5 s6 s7) = some (.nx (stE A ds (xs ++ [bI true]) (.pu (nmT "any")) t5 t6 t7)) := by
  refine ⟨_, _, _, (seq_nx kind_).trans ((ifs_f is_).trans ((ifs_f is_).trans ((ifs_t is_).trans ((grow_ rfl (d := iD 1) rfl hl).trans rfl))))⟩
theorem popL_ {i : Nat} {g : Int → Int → V} {φ : L2.Tr.Env → Option D} {ρ : L2.Tr.Env} {xs : List D} {a b : Int} (h : ρ[i]? = some (.ow (.seq true (xs ++ [iD b])))) (h2 : φ ρ = some (iD a)) : popLF i g φ ρ = some (.nx (ρ.set i (.ow (.seq true (xs ++ [.leaf (g a b)]))))) := by
  unfold popLF
  rw [h]
  show ((φ ρ).bind fun d => _) = _
  rw [h2, Option.bind_some, List.reverse_append]
  show some (Out.nx (ρ.set i (Sl.ow (.seq true (xs.reverse.reverse ++ [.leaf (g a b)]))))) = _
  rw [List.reverse_reverse]
theorem popB_ {i : Nat} {g : Int → Int → V} {ρ : L2.Tr.Env} {xs : List D} {a b : Int} (h : ρ[i]? = some (.ow (.seq true (xs ++ [iD b] ++ [iD a])))) : popBF i g ρ = some (.nx (ρ.set i (.ow (.seq true (xs ++ [.leaf (g a b)]))))) := by
  unfold popBF
  rw [h]
  show (match (xs ++ [iD b] ++ [iD a]).reverse with | D.leaf (V.int a) :: D.leaf (V.int b) :: r => some (Out.nx (ρ.set i (Sl.ow (.seq true (r.reverse ++ [D.leaf (g a b)]))))) | _ => none) = _
  rw [List.reverse_append, List.reverse_append]
  show some (Out.nx (ρ.set i (Sl.ow (.seq true (xs.reverse.reverse ++ [.leaf (g a b)]))))) = _
  rw [List.reverse_reverse]
theorem st_not {a : Bool} : ∃ t5 t6 t7, FB (stE A ds (xs ++ [bI a]) (.pu (nmT "not")) s5 s6 s7) = some (.nx (stE A ds (xs ++ [bI (!a)]) (.pu (nmT "not")) t5 t6 t7)) := by
  refine ⟨.pu (sD "not"), s6, s7, (seq_nx kind_).trans ((ifs_f is_).trans ((ifs_f is_).trans ((ifs_f is_).trans ((ifs_t is_).trans ((popL_ (a := 1) rfl rfl).trans ?_)))))⟩
  cases a <;> rfl
theorem st_and {a b : Bool} : ∃ t5 t6 t7, FB (stE A ds (xs ++ [bI a] ++ [bI b]) (.pu (nmT "and")) s5 s6 s7) = some (.nx (stE A ds (xs ++ [bI (a && b)]) (.pu (nmT "and")) t5 t6 t7)) := by
  refine ⟨.pu (sD "and"), s6, s7, (seq_nx kind_).trans ((ifs_f is_).trans ((ifs_f is_).trans ((ifs_f is_).trans ((ifs_f is_).trans ((ifs_t is_).trans ((popB_ rfl).trans ?_))))))⟩
  cases a <;> cases b <;> rfl
theorem st_or {a b : Bool} : ∃ t5 t6 t7, FB (stE A ds (xs ++ [bI a] ++ [bI b]) (.pu (nmT "or")) s5 s6 s7) = some (.nx (stE A ds (xs ++ [bI (a || b)]) (.pu (nmT "or")) t5 t6 t7)) := by
  refine ⟨.pu (sD "or"), s6, s7, (seq_nx kind_).trans ((ifs_f is_).trans ((ifs_f is_).trans ((ifs_f is_).trans ((ifs_f is_).trans ((ifs_f is_).trans ((popB_ rfl).trans ?_))))))⟩
  cases a <;> cases b <;> rfl
/-! many steps -/
def RunS (A : Sl) (ds : List D) (ss : List D) (bs cs : List Bool) : Prop := ∀ rest s4 s5 s6 s7, ∃ t4 t5 t6 t7, loopF (setF 4) FB (ss ++ rest) (stE A ds (bs.map bI) s4 s5 s6 s7) = loopF (setF 4) FB rest (stE A ds (cs.map bI) t4 t5 t6 t7)
theorem RunS.trans {ss st : List D} {bs cs es : List Bool} (h : RunS A ds ss bs cs) (k : RunS A ds st cs es) : RunS A ds (ss ++ st) bs es := fun rest s4 s5 s6 s7 => by
  obtain ⟨t4, t5, t6, t7, e1⟩ := h (st ++ rest) s4 s5 s6 s7
  obtain ⟨u4, u5, u6, u7, e2⟩ := k rest t4 t5 t6 t7
  exact ⟨u4, u5, u6, u7, by rw [List.append_assoc, e1, e2]⟩
theorem RunS.one {d : D} {bs cs : List Bool} (h : ∀ s5 s6 s7, ∃ t5 t6 t7, FB (stE A ds (bs.map bI) (.pu d) s5 s6 s7) = some (.nx (stE A ds (cs.map bI) (.pu d) t5 t6 t7))) : RunS A ds [d] bs cs := fun rest s4 s5 s6 s7 => by
  obtain ⟨t5, t6, t7, e⟩ := h s5 s6 s7
  refine ⟨.pu d, t5, t6, t7, ?_⟩
  show (some (stE A ds (bs.map bI) (.pu d) s5 s6 s7)).bind _ = _
  rw [Option.bind_some, e]
  rfl
theorem snoc_bI (bs : List Bool) (b : Bool) : (bs ++ [b]).map bI = bs.map bI ++ [bI b] := by rw [List.map_append]; rfl
theorem run_not {bs : List Bool} {a : Bool} : RunS A ds [nmT "not"] (bs ++ [a]) (bs ++ [!a]) := .one fun s5 s6 s7 => by
  rw [snoc_bI, snoc_bI]; exact st_not
theorem run_and {bs : List Bool} {a b : Bool} : RunS A ds [nmT "and"] (bs ++ [a] ++ [b]) (bs ++ [a && b]) := .one fun s5 s6 s7 => by
  rw [snoc_bI, snoc_bI, snoc_bI]; exact st_and
theorem run_or {bs : List Bool} {a b : Bool} : RunS A ds [nmT "or"] (bs ++ [a] ++ [b]) (bs ++ [a || b]) := .one fun s5 s6 s7 => by
  rw [snoc_bI, snoc_bI, snoc_bI]; exact st_or
theorem row_at {ks row : List Str} {n : Int} {x : Str} (hx : x ∈ ks) (hr : row.length = ks.length) : (row.map sD ++ [iD n])[pos ks x]? = some (sD (row.getD (pos ks x) "")) := by
  have h := (pos_at hx).2
  have hl : pos ks x < ks.length := (List.getElem?_eq_some_iff.mp h).1
  rw [List.getElem?_append_left (by rw [List.length_map]; omega), List.getElem?_map, List.getD_eq_getElem?_getD]
  rw [List.getElem?_eq_getElem (by omega)]
  rfl
theorem num_at {ks row : List Str} {n : Int} (hr : row.length = ks.length) : (row.map sD ++ [iD n])[ks.length]? = some (iD n) := by
  rw [List.getElem?_append_right (by rw [List.length_map]; omega), List.length_map, hr, Nat.sub_self]
  rfl
theorem run_steps {ks row : List Str} {n : Int} (hr : row.length = ks.length) : ∀ (l : Lk) (bs : List Bool), Named ks l → bs.length + (stepsOf ks l).length ≤ 4000 → RunS A (row.map sD ++ [iD n]) (stepsOf ks l) bs (bs ++ [sem ks row n l])
  | .has x ws, bs, h, hl => .one fun s5 s6 s7 => by
    rw [snoc_bI]
    exact st_in (row_at h hr) (by rw [inD_str, Bool.false_xor]; rfl) (by rw [List.length_map]; have : bs.length + 1 ≤ 4000 := hl; omega)
  | .same x y, bs, h, hl => .one fun s5 s6 s7 => by
    rw [snoc_bI]
    exact st_same (row_at h.1 hr) (row_at h.2 hr) rfl (by rw [List.length_map]; have : bs.length + 1 ≤ 4000 := hl; omega)
  | .numb ns, bs, h, hl => .one fun s5 s6 s7 => by
    rw [snoc_bI]
    exact st_in (num_at hr) (by rw [inD_int, Bool.false_xor]; rfl) (by rw [List.length_map]; have : bs.length + 1 ≤ 4000 := hl; omega)
  | .every, bs, h, hl => .one fun s5 s6 s7 => by
    rw [snoc_bI]
    exact st_any (by rw [List.length_map]; have : bs.length + 1 ≤ 4000 := hl; omega)
  | .not l, bs, h, hl => by
    unfold stepsOf at hl ⊢
    rw [List.length_append] at hl
    exact (run_steps hr l bs h (by omega)).trans run_not
  | .bin .and l m, bs, h, hl => by
    unfold stepsOf at hl ⊢
    rw [List.length_append, List.length_append] at hl
    have := steps_pos (ks := ks) l
    exact (run_steps hr l bs h.1 (by omega)).trans ((run_steps hr m (bs ++ [sem ks row n l]) h.2 (by rw [List.length_append]; have : [sem ks row n l].length = 1 := rfl; omega)).trans run_and)
  | .bin .or l m, bs, h, hl => by
    unfold stepsOf at hl ⊢
    rw [List.length_append, List.length_append] at hl
    have := steps_pos (ks := ks) l
    exact (run_steps hr l bs h.1 (by omega)).trans ((run_steps hr m (bs ++ [sem ks row n l]) h.2 (by rw [List.length_append]; have : [sem ks row n l].length = 1 := rfl; omega)).trans run_or)
  | .bin .less l m, bs, h, hl => by
    unfold stepsOf at hl ⊢
    rw [List.length_append, List.length_append, List.length_append] at hl
    have := steps_pos (ks := ks) l
    exact (run_steps hr l bs h.1 (by omega)).trans (((run_steps hr m (bs ++ [sem ks row n l]) h.2 (by rw [List.length_append]; have : [sem ks row n l].length = 1 := rfl; omega)).trans run_not).trans run_and)
  | .bin .xor l m, bs, h, hl => by
    unfold stepsOf at hl ⊢
    simp only [List.length_append] at hl
    have := steps_pos (ks := ks) l
    have o1 : RunS A (row.map sD ++ [iD n]) (stepsOf ks l ++ (stepsOf ks m ++ [nmT "or"])) bs (bs ++ [sem ks row n l || sem ks row n m]) := (run_steps hr l bs h.1 (by omega)).trans ((run_steps hr m (bs ++ [sem ks row n l]) h.2 (by rw [List.length_append]; have : [sem ks row n l].length = 1 := rfl; omega)).trans run_or)
    have l2 : (bs ++ [sem ks row n l || sem ks row n m]).length = bs.length + 1 := by rw [List.length_append]; rfl
    have o2 : RunS A (row.map sD ++ [iD n]) (stepsOf ks l ++ (stepsOf ks m ++ [nmT "and"])) (bs ++ [sem ks row n l || sem ks row n m]) (bs ++ [sem ks row n l || sem ks row n m] ++ [sem ks row n l && sem ks row n m]) := (run_steps hr l _ h.1 (by omega)).trans ((run_steps hr m (bs ++ [sem ks row n l || sem ks row n m] ++ [sem ks row n l]) h.2 (by rw [List.length_append, l2]; have : [sem ks row n l].length = 1 := rfl; omega)).trans run_and)
    have e : ((sem ks row n l || sem ks row n m) && !(sem ks row n l && sem ks row n m)) = sem ks row n (.bin .xor l m) := by
      show _ = xor (sem ks row n l) (sem ks row n m)
      cases sem ks row n l <;> cases sem ks row n m <;> rfl
    rw [← e]
    exact o1.trans ((o2.trans run_not).trans run_and)
end
/-! found, and a look that is called -/
def lookV (C3 : Addr) (c : D) (ks : List Str) (l : Lk) : D := .obj C3 ["columns", "steps"] [c, .seq false (stepsOf ks l)]
theorem fldS {C3 : Addr} {c : D} {ks : List Str} {l : Lk} {ρ : L2.Tr.Env} {i : Nat} (h : atP i ρ = some (lookV C3 c ks l)) : fldF C3 "steps" (atP i) ρ = some (.seq false (stepsOf ks l)) := by
  unfold fldF
  rw [h, Option.bind_some]
  unfold fldD lookV
  simp [getS]
  intro z
  exact absurd z (by decide +kernel)
theorem seqs_ {φ : L2.Tr.Env → Option D} {ρ : L2.Tr.Env} {b : Bool} {ds : List D} (h : φ ρ = some (.seq b ds)) : seqsF φ ρ = some ds := by
  unfold seqsF
  rw [h]; rfl
theorem fldC {C3 : Addr} {c : D} {ks : List Str} {l : Lk} {ρ : L2.Tr.Env} {i : Nat} (h : atP i ρ = some (lookV C3 c ks l)) : fldF C3 "columns" (atP i) ρ = some c := by
  unfold fldF
  rw [h, Option.bind_some]
  unfold fldD lookV
  simp [getS]
theorem found_ok {C3 : Addr} {c : D} {ks row : List Str} {n : Int} {l : Lk} (hr : row.length = ks.length) (hk : Named ks l) (hl : (stepsOf ks l).length ≤ 4000) :
    fFound C3 [lookV C3 c ks l, .seq true (ax1 (row.map sD ++ [iD n]))] = some (bI (sem ks row n l)) := by
  show runF nFound.length (FFound C3) [lookV C3 c ks l, .seq true (ax1 (row.map sD ++ [iD n]))] = _
  refine run_rt ?_
  show FFound C3 [.pu (lookV C3 c ks l), .pu (.seq true (ax1 (row.map sD ++ [iD n]))), .un, .un, .un, .un, .un, .un] = _
  unfold FFound
  have e1 : bin2 (intI fun i j => .int (i - j)) (bin2 shlD (kD (.leaf (.int 1))) (app1 fCount (consD (atP 1) nilD))) (kD (.leaf (.int 1))) [.pu (lookV C3 c ks l), .pu (.seq true (ax1 (row.map sD ++ [iD n]))), .un, .un, .un, .un, .un, .un] = some (iD 1) := by
    rw [bin_2 (d := iD 2) (e := iD 1) ?_ rfl]
    · rfl
    · rw [bin_2 (d := iD 1) (e := iD 1) rfl (by rw [app_1 (d := .seq true (ax1 (row.map sD ++ [iD n]))) rfl, count_one])]
      rfl
  obtain ⟨t4, t5, t6, t7, e2⟩ := run_steps (A := .pu (lookV C3 c ks l)) (n := n) hr l [] hk (by show 0 + _ ≤ _; omega) [] .un .un .un .un
  rw [List.append_nil] at e2
  refine (seq_nx (asg_ e1)).trans ((seq_nx (ρ2 := stE (.pu (lookV C3 c ks l)) (row.map sD ++ [iD n]) [] .un .un .un .un) rfl).trans ((seq_nx (for_c (seqs_ (fldS rfl)) e2)).trans (ret_f ?_)))
  rfl
theorem call_ok {C3 : Addr} {c : D} {ks row : List Str} {n : Int} {l : Lk} {b : Bool} (hr : row.length = ks.length) (hk : Named ks l) (hl : (stepsOf ks l).length ≤ 4000) (hc : ks.length ≤ 3) :
    fLCall C3 [lookV C3 c ks l, .seq b (row.map sD), iD n] = some (bD (sem ks row n l)) := by
  show runF nLCall.length (FLCall C3) [lookV C3 c ks l, .seq b (row.map sD), iD n] = _
  refine run_rt (ret_f ?_)
  have hLim : Lim = 5000 := rfl
  have e1 : lcF [3] (seqsF (tupDisp (starD (atP 1) (consD (atP 2) nilD)))) (setF 3) yesF (tupDisp (consD (atP 3) nilD)) [.pu (lookV C3 c ks l), .pu (.seq b (row.map sD)), .pu (iD n), .un] = some (ax1 (row.map sD ++ [iD n])) := by
    have hlen : (row.map sD ++ [iD n]).length ≤ Lim := by rw [List.length_append, List.length_map]; have : [iD n].length = 1 := rfl; omega
    rw [lc_ (ds := row.map sD ++ [iD n]) ?_ hlen]
    · refine (comp_map (θ := setF 3) (χ := yesF) (φ := tupDisp (consD (atP 3) nilD)) (ρ := [.pu (lookV C3 c ks l), .pu (.seq b (row.map sD)), .pu (iD n), .un]) (g := fun d => D.seq false [d]) (ds := row.map sD ++ [iD n]) fun d hd => ⟨[.pu (lookV C3 c ks l), .pu (.seq b (row.map sD)), .pu (iD n), .pu d], rfl, rfl, rfl⟩).trans ?_
      unfold ax1 axD
      rw [List.map_map]
      rfl
    · show ((some (row.map sD ++ [iD n])).bind fun ds => if ds.length ≤ Lim then some (D.seq false ds) else none).bind _ = _
      rw [Option.bind_some, if_pos hlen]
      rfl
  show bin2 (scD false) (metF C3 "found" (fFound C3) (atP 0) (consD (mapS (lcF [3] (seqsF (tupDisp (starD (atP 1) (consD (atP 2) nilD)))) (setF 3) yesF (tupDisp (consD (atP 3) nilD)))) nilD)) (kD (.leaf (.int 1))) [.pu (lookV C3 c ks l), .pu (.seq b (row.map sD)), .pu (iD n), .un] = _
  rw [bin_2 (d := bI (sem ks row n l)) (e := iD 1) ?_ rfl]
  · cases sem ks row n l <;> rfl
  · unfold metF
    show (some (lookV C3 c ks l)).bind _ = _
    rw [Option.bind_some, cons_ (maps_ e1) rfl, Option.bind_some]
    show metD C3 "found" (fFound C3) (lookV C3 c ks l) [.seq true (ax1 (row.map sD ++ [iD n]))] = _
    unfold metD lookV
    simp only []
    rw [if_pos ?_]
    · exact found_ok hr hk hl
    · first | rfl | decide
end L2.K1

namespace L2.K1
open PySem PySem.Spec PyProof.Rows L2.Tr
/-! looks are made -/
theorem mk_look {C3 : Addr} {c s : D} : mkD C3 (fLInit C3) [c, s] = some (.obj C3 ["columns", "steps"] [c, s]) := by
  have h1 : sfldF 0 C3 "columns" (atP 1) [.ow (.obj C3 [] []), .pu c, .pu s] = some (.nx [.ow (.obj C3 ["columns"] [c]), .pu c, .pu s]) := by
    unfold sfldF
    show (if C3 = C3 ∧ 0 < 100 then _ else none) = _
    rw [if_pos ⟨rfl, by decide⟩]
    rfl
  have e2 : putS ["columns"] [c] "steps" s = ((["columns", "steps"] : List Str), [c, s]) := by
    unfold putS
    rw [if_neg (by decide +kernel)]
    rfl
  have h2 : sfldF 0 C3 "steps" (atP 2) [.ow (.obj C3 ["columns"] [c]), .pu c, .pu s] = some (.nx [.ow (.obj C3 ["columns", "steps"] [c, s]), .pu c, .pu s]) := by
    unfold sfldF
    show (if C3 = C3 ∧ 1 < 100 then _ else none) = _
    rw [if_pos ⟨rfl, by decide⟩]
    show some (Out.nx [Sl.ow (.obj C3 (putS ["columns"] [c] "steps" s).1 (putS ["columns"] [c] "steps" s).2), .pu c, .pu s]) = _
    rw [e2]
  show (fLInit C3 [c, s]).map (fun r => D.obj C3 r.1 r.2) = _
  have : fLInit C3 [c, s] = some ((["columns", "steps"] : List Str), [c, s]) := by
    show initF nLInit.length C3 (FLInit C3) [c, s] = _
    unfold initF
    show ((FLInit C3 [.ow (.obj C3 [] []), .pu c, .pu s]).bind fun (o : Out) => match o with
      | .nx ρ2 => match (ρ2[0]? : Option Sl) with
        | some (Sl.ow (D.obj C' ns es)) => if C' = C3 then some (ns, es) else none
        | _ => none
      | _ => none) = _
    rw [show FLInit C3 [.ow (.obj C3 [] []), .pu c, .pu s] = some (.nx [.ow (.obj C3 ["columns", "steps"] [c, s]), .pu c, .pu s]) from (seq_nx h1).trans h2]
    show (if C3 = C3 then some ((["columns", "steps"] : List Str), [c, s]) else none) = _
    rw [if_pos rfl]
  rw [this]; rfl
section
variable {C C3 : Addr} {ps : List (Str × List Str)} {xs : List Str}
theorem in_ok {x : Str} (h : x ∈ keysOf ps xs) : fIn C [colV C ps xs, sD x] = some (bD true) := by
  refine run_rt (ret_f ?_)
  show (andF _ _) [.pu (colV C ps xs), .pu (sD x)] = _
  rw [and_t rfl]
  show (bin2 (dinB false) (atP 1) (fldF C "_values" (atP 0)) _).map bD = _
  rw [bin_2 (d := sD x) rfl (fld_ok (i := 0) rfl)]
  show (some (xor false (memK (.inr x) ((keysOf ps xs).map Sum.inr)))).map bD = _
  rw [memK_str, decide_eq_true h]; rfl
theorem tv_ok (h : Cols ps xs) {x : Str} {j : Nat} {o : Option (List Str)} (hx : (keysOf ps xs)[j]? = some x) (ho : (osOf ps xs)[j]? = some o) : fTV C [colV C ps xs, sD x] = some (vD o) := by
  have hm : x ∈ keysOf ps xs := List.mem_of_getElem? hx
  refine run_rt ?_
  show FTV C [.pu (colV C ps xs), .pu (sD x)] = _
  refine (seq_if_f (asB_ (b := false) ?_)).trans (ret_f ?_)
  · rw [bin_2 (d := sD x) (e := colV C ps xs) rfl rfl]
    show (if C = C then ((fIn C [colV C ps xs, sD x]).bind asB).map fun b => bD (true != b) else none) = _
    rw [if_pos rfl, in_ok hm]
    rfl
  · rw [bin_2 (fld_ok (i := 0) rfl) (e := sD x) rfl]
    show getK ((keysOf ps xs).map Sum.inr) (valsOf ps xs) (.inr x) = _
    refine getK_app (i := j) (nodup_inr h.nd) (by rw [List.getElem?_map, hx]; rfl) ?_
    rw [vals_os, List.getElem?_map, ho]; rfl
theorem keyV_strs : ∀ ks : List Str, (ks.map (Sum.inr : Str → Key)).map keyV = ks.map sD
  | [] => rfl
  | k :: ks => by rw [List.map_cons, List.map_cons, keyV_strs ks]; rfl
theorem names_ok (h : Cols ps xs) {ρ : L2.Tr.Env} {i : Nat} (e : atP i ρ = some (colV C ps xs)) : mapS (metFO C "names" (fNames C) (atP i)) ρ = some (.seq true ((keysOf ps xs).map sD)) := by
  refine maps_ ?_
  unfold metFO
  rw [e, Option.bind_some]
  show (if C = C ∧ ("names" : Str) ∉ (["_values"] : List Str) then fNames C [colV C ps xs] else none) = _
  rw [if_pos ⟨rfl, by decide +kernel⟩]
  show app1 lstA (consD (fldF C "_values" (atP 0)) nilD) [.pu (colV C ps xs)] = _
  rw [app_1 (fld_ok (i := 0) rfl)]
  show (if ((keysOf ps xs).map (Sum.inr : Str → Key)).all okKey = true then some (((keysOf ps xs).map (Sum.inr : Str → Key)).map keyV) else none) = _
  rw [if_pos (ok_keys (C := C) h), keyV_strs]
theorem len_of {f : List D → Option D} {n : Nat} (h : f [colV C ps xs] = some (.leaf (.int n))) (hn : n ≤ 1000) : lenOD C f [colV C ps xs] = some (.leaf (.int n)) := by
  have hn2 : 0 ≤ (n : Int) ∧ (n : Int) < 2 ^ 63 := by constructor <;> omega
  unfold lenOD colV
  dsimp only
  rw [if_pos rfl]
  unfold colV at h
  rw [h, Option.bind_some, show asI (D.leaf (.int n)) = some (n : Int) from rfl, Option.bind_some]
  exact if_pos hn2
theorem len_ok (h : Cols ps xs) : lenOD C (fLen C) [colV C ps xs] = some (iD ((keysOf ps xs).length : Nat)) := by
  refine len_of ?_ (by rw [keys_len]; have := h.l3; omega)
  refine run_rt (ret_f ?_)
  rw [app_1 (fld_ok (i := 0) rfl)]
  show some (iD ((valsOf ps xs).length : Nat)) = _
  rw [vals_len, keys_len]
theorem strsD_map : ∀ (ys : List Str), strsD (ys.map sD) = some ys
  | [] => rfl
  | x :: r => by rw [List.map_cons, strsD, strsD_map r]; rfl
theorem index_ok {ks : List Str} {x : Str} (h : x ∈ ks) : indexD (.seq true (ks.map sD)) (sD x) = some (iD (pos ks x : Nat)) := by
  show ((strsD (ks.map sD)).bind fun ys => (idxS x ys).map fun j => D.leaf (.int (j : Nat))) = _
  rw [strsD_map, Option.bind_some, (pos_at h).1]; rfl
/-- words that can stand in a column -/
structure WordsOk (o : Option (List Str)) (ws : List Str) : Prop where
  ne : ws ≠ []
  nd : ws.Nodup
  hi : ws.length ≤ 100
  w : ∀ x ∈ ws, isW x = true
  v : ∀ x ∈ ws, ∀ vs, o = some vs → x ∈ vs
theorem aval_ok {b : Bool} {o : Option (List Str)} {ws : List Str} (h : WordsOk o ws) : fAVal [.seq b (ws.map sD), vD o] = some (bD true) := by
  have hlen : (ws.map sD).length = ws.length := List.length_map ..
  have hpos : 0 < ws.length := by cases ws with | nil => exact absurd rfl h.ne | cons _ _ => exact Nat.succ_pos _
  have lA : (app1 lenA (consD (atP 0) nilD)) [.pu (.seq b (ws.map sD)), .pu (vD o), .un] = some (iD (ws.length : Nat)) := by
    show some (D.leaf (.int ((ws.map sD).length : Nat))) = _
    rw [hlen]
  refine run_rt ?_
  show FAVal [.pu (.seq b (ws.map sD)), .pu (vD o), .un] = _
  refine (seq_if_f ?_).trans (ret_f ?_)
  · rw [orB_f (notB_ (b := true) (truB (by rw [app_1 (d := .seq b (ws.map sD)) rfl, l_seq])))]
    refine asB_ ?_
    rw [bin_2 lA (e := iD 0) rfl]
    show some (bD (xor false (decide (V.int (ws.length : Nat) = V.int 0)))) = _
    rw [decide_eq_false (fun z => by have := V.int.inj z; omega)]; rfl
  have c1 : lcF [2] (seqsF (atP 0)) (setF 2) yesF (app1 fCan (consD (atP 2) (consD (atP 1) nilD))) [.pu (.seq b (ws.map sD)), .pu (vD o), .un] = some (ws.map fun _ => bD true) := by
    rw [lc_ (ds := ws.map sD) rfl (by rw [hlen]; have := h.hi; have : Lim = 5000 := rfl; omega)]
    refine (comp_map (θ := setF 2) (χ := yesF) (φ := app1 fCan (consD (atP 2) (consD (atP 1) nilD))) (ρ := [.pu (.seq b (ws.map sD)), .pu (vD o), .un]) (g := fun _ => bD true) (ds := ws.map sD) fun d hd => ?_).trans (by rw [List.map_map]; rfl)
    · obtain ⟨x, hx, rfl⟩ := List.mem_map.mp hd
      refine ⟨[.pu (.seq b (ws.map sD)), .pu (vD o), .pu (sD x)], rfl, rfl, ?_⟩
      rw [app_2 (d := sD x) (e := vD o) rfl rfl]
      cases o with
      | none => show fCan [sD x, .leaf .non] = _; rw [can_free, h.w x hx]
      | some vs => show fCan [sD x, .seq false (vs.map sD)] = _; rw [can_told, h.w x hx, decide_eq_true (h.v x hx vs rfl)]; rfl
  have ls : lenSF (atP 0) [.pu (.seq b (ws.map sD)), .pu (vD o), .un] = some (iD (ws.length : Nat)) := by
    show ((strsOf (ws.map sD)).bind fun ys => if ys.length ≤ 100 then some (D.leaf (.int (Vs.dcn ys ys.length))) else none) = _
    rw [L2.Tr.strs_map, Option.bind_some, if_pos h.hi, (Vs.dcn_nodup (Nat.le_refl _)).mpr (by rw [List.take_length]; exact h.nd)]
  rw [and_t, bin_2 ls lA]
  · show some (bD (xor false (decide (V.int (ws.length : Nat) = V.int (ws.length : Nat))))) = _
    rw [decide_eq_true rfl]; rfl
  · rw [app_1 (maps_ c1), all_map (fun _ => true), List.all_eq_true.mpr fun _ _ => rfl]
theorem tup1 {φ : L2.Tr.Env → Option D} {ρ : L2.Tr.Env} {d : D} (h : φ ρ = some d) : tupDisp (consD φ nilD) ρ = some (.seq false [d]) := by
  show (consD φ nilD ρ).bind _ = _
  rw [cons_ h rfl]
  rfl
theorem tup3 {φ ψ χ : L2.Tr.Env → Option D} {ρ : L2.Tr.Env} {d e f : D} (h : φ ρ = some d) (h2 : ψ ρ = some e) (h3 : χ ρ = some f) : tupDisp (consD φ (consD ψ (consD χ nilD))) ρ = some (.seq false [d, e, f]) := by
  show (consD _ _ ρ).bind _ = _
  rw [cons_ h (cons_ h2 (cons_ h3 rfl))]
  rfl
theorem has_ok (h : Cols ps xs) {b : Bool} {x : Str} {j : Nat} {o : Option (List Str)} {ws : List Str} (hx : (keysOf ps xs)[j]? = some x) (ho : (osOf ps xs)[j]? = some o) (hw : WordsOk o ws) :
    fHas C C3 [colV C ps xs, sD x, .seq b (ws.map sD)] = some (lookV C3 (colV C ps xs) (keysOf ps xs) (.has x ws)) := by
  have hm : x ∈ keysOf ps xs := List.mem_of_getElem? hx
  refine run_rt ?_
  show FHas C C3 [.pu (colV C ps xs), .pu (sD x), .pu (.seq b (ws.map sD)), .un] = _
  refine (seq_nx (asg_ (d := vD o) ?_)).trans ?_
  · unfold metF
    show (some (colV C ps xs)).bind _ = _
    rw [Option.bind_some, cons_ (d := sD x) rfl rfl, Option.bind_some]
    show (if C = C ∧ ("told_values" : Str) ∉ (["_values"] : List Str) then fTV C [colV C ps xs, sD x] else none) = _
    rw [if_pos ⟨rfl, by decide +kernel⟩]
    exact tv_ok h hx ho
  show seqF _ _ [.pu (colV C ps xs), .pu (sD x), .pu (.seq b (ws.map sD)), .pu (vD o)] = _
  refine (seq_if_f (notB_ (b := true) (truB (by rw [app_2 (d := .seq b (ws.map sD)) (e := vD o) rfl rfl, aval_ok hw])))).trans (ret_f ?_)
  rw [app_2 (d := colV C ps xs) (e := .seq false (stepsOf (keysOf ps xs) (.has x ws))) rfl (tup1 (tup3 rfl (by rw [bin_2 (names_ok h rfl) (e := sD x) rfl, index_ok hm]) (by rw [app_1 (d := .seq b (ws.map sD)) rfl]; rfl)))]
  exact mk_look
theorem every_ok : fEvery C3 [colV C ps xs] = some (lookV C3 (colV C ps xs) (keysOf ps xs) .every) := by
  refine run_rt (ret_f ?_)
  rw [app_2 (d := colV C ps xs) (e := .seq false (stepsOf (keysOf ps xs) .every)) rfl (tup1 (tup1 rfl))]
  exact mk_look
theorem anum_ok {b : Bool} {ns : List Int} (h0 : ns ≠ []) (hl : ns.length ≤ 100) (h : ∀ n ∈ ns, 1 ≤ n ∧ n ≤ 4) : fANum [.seq b (ns.map iD)] = some (bD true) := by
  have hlen : (ns.map iD).length = ns.length := List.length_map ..
  have hpos : 0 < ns.length := by cases ns with | nil => exact absurd rfl h0 | cons _ _ => exact Nat.succ_pos _
  have lA : (app1 lenA (consD (atP 0) nilD)) [.pu (.seq b (ns.map iD)), .un] = some (iD (ns.length : Nat)) := by
    show some (D.leaf (.int ((ns.map iD).length : Nat))) = _
    rw [hlen]
  refine run_rt ?_
  show FANum [.pu (.seq b (ns.map iD)), .un] = _
  refine (seq_if_f ?_).trans (ret_f ?_)
  · rw [orB_f (notB_ (b := true) (truB (by rw [app_1 (d := .seq b (ns.map iD)) rfl, l_seq])))]
    refine asB_ ?_
    rw [bin_2 lA (e := iD 0) rfl]
    show some (bD (xor false (decide (V.int (ns.length : Nat) = V.int 0)))) = _
    rw [decide_eq_false (fun z => by have := V.int.inj z; omega)]; rfl
  have c1 : lcF [1] (seqsF (atP 0)) (setF 1) yesF (andF (app1 fIsNu (consD (atP 1) nilD)) (chainF (intI fun i j => .bl (decide (i ≤ j))) (intI fun i j => .bl (decide (i ≤ j))) (kD (.leaf (.int 1))) (atP 1) (kD (.leaf (.int 4))))) [.pu (.seq b (ns.map iD)), .un] = some (ns.map fun _ => bD true) := by
    rw [lc_ (ds := ns.map iD) rfl (by rw [hlen]; have : Lim = 5000 := rfl; omega)]
    refine (comp_map (θ := setF 1) (χ := yesF) (ρ := [.pu (.seq b (ns.map iD)), .un]) (g := fun _ => bD true) (ds := ns.map iD) fun d hd => ?_).trans (by rw [List.map_map]; rfl)
    · obtain ⟨n, hn, rfl⟩ := List.mem_map.mp hd
      refine ⟨[.pu (.seq b (ns.map iD)), .pu (iD n)], rfl, rfl, ?_⟩
      rw [and_t rfl]
      unfold chainF
      show (((some (bD (decide (1 ≤ n)))).bind asB).bind fun k => if k = true then some (bD (decide (n ≤ 4))) else some (bD false)) = _
      rw [decide_eq_true (h n hn).1, decide_eq_true (h n hn).2]; rfl
  rw [app_1 (maps_ c1), all_map (fun _ => true), List.all_eq_true.mpr fun _ _ => rfl]
theorem numb_ok (h : Cols ps xs) {b : Bool} {ns : List Int} (h0 : ns ≠ []) (hl : ns.length ≤ 100) (hn : ∀ n ∈ ns, 1 ≤ n ∧ n ≤ 4) :
    fNumb C C3 [colV C ps xs, .seq b (ns.map iD)] = some (lookV C3 (colV C ps xs) (keysOf ps xs) (.numb ns)) := by
  refine run_rt ?_
  show FNumb C C3 [.pu (colV C ps xs), .pu (.seq b (ns.map iD))] = _
  refine (seq_if_f (notB_ (b := true) (truB (by rw [app_1 (d := .seq b (ns.map iD)) rfl, anum_ok h0 hl hn])))).trans (ret_f ?_)
  rw [app_2 (d := colV C ps xs) (e := .seq false (stepsOf (keysOf ps xs) (.numb ns))) rfl (tup1 (tup3 rfl (by rw [app_1 (d := colV C ps xs) rfl, len_ok h]) (by rw [app_1 (d := .seq b (ns.map iD)) rfl]; rfl)))]
  exact mk_look
theorem shaped_val {o : Option (List Str)} (h : ∀ vs, o = some vs → ∀ x ∈ vs, isW x = true) : SeqAt.shaped (valP o) = true := by
  cases o with
  | none => show SeqAt.shaped PyData.none = true; unfold SeqAt.shaped; rw [PyData.canLay0, PyData.depth]; rfl
  | some vs =>
    obtain ⟨h1, h2⟩ := lay_strs (h vs rfl)
    show SeqAt.shaped (.tuple (vs.map .str)) = true
    unfold SeqAt.shaped
    rw [PyData.canLay0, h1, PyData.depth, h2]; rfl
theorem os_words (h : Cols ps xs) {o : Option (List Str)} (ho : o ∈ osOf ps xs) : ∀ vs, o = some vs → ∀ x ∈ vs, isW x = true := fun vs e x hx => by
  subst e
  rcases List.mem_append.mp ho with q | q
  · obtain ⟨p, hp, e⟩ := List.mem_map.mp q
    cases e
    exact (h.t p hp).v.ws x hx
  · obtain ⟨p, hp, e⟩ := List.mem_map.mp q
    cases e
theorem eq_vD {neg : Bool} {o o' : Option (List Str)} (h : ∀ vs, o = some vs → ∀ x ∈ vs, isW x = true) (h' : ∀ vs, o' = some vs → ∀ x ∈ vs, isW x = true) : eqP neg (vD o) (vD o') = some (bD (xor neg (decide (o = o')))) := by
  unfold eqP
  rw [pyD_val, pyD_val, Option.bind_some, Option.bind_some, if_pos ⟨shaped_val h, shaped_val h'⟩, eqv_val]
theorem same_ok (h : Cols ps xs) {x y : Str} {i j : Nat} {o : Option (List Str)} (hx : (keysOf ps xs)[i]? = some x) (ho : (osOf ps xs)[i]? = some o) (hy : (keysOf ps xs)[j]? = some y) (ho2 : (osOf ps xs)[j]? = some o) (hne : x ≠ y) :
    fSame2 C C3 [colV C ps xs, sD x, sD y] = some (lookV C3 (colV C ps xs) (keysOf ps xs) (.same x y)) := by
  have hm : x ∈ keysOf ps xs := List.mem_of_getElem? hx
  have hm2 : y ∈ keysOf ps xs := List.mem_of_getElem? hy
  have hw := os_words h (List.mem_of_getElem? ho)
  have tv : ∀ {z : Str} {k : Nat} {q : Nat} {ρ : L2.Tr.Env}, (keysOf ps xs)[k]? = some z → (osOf ps xs)[k]? = some o → atP 0 ρ = some (colV C ps xs) → atP q ρ = some (sD z) → metF C "told_values" (fTV C) (atP 0) (consD (atP q) nilD) ρ = some (vD o) := fun {z k q ρ} a b c d => by
    unfold metF
    rw [c, Option.bind_some, cons_ d rfl, Option.bind_some]
    show (if C = C ∧ ("told_values" : Str) ∉ (["_values"] : List Str) then fTV C [colV C ps xs, sD z] else none) = _
    rw [if_pos ⟨rfl, by decide +kernel⟩]
    exact tv_ok h a b
  refine run_rt ?_
  show FSame2 C C3 [.pu (colV C ps xs), .pu (sD x), .pu (sD y), .un, .un, .un] = _
  refine (seq_nx (ρ2 := [.pu (colV C ps xs), .pu (sD x), .pu (sD y), .pu (vD o), .pu (vD o), .un]) ?_).trans ?_
  · show (metF C "told_values" (fTV C) (atP 0) (consD (atP 1) nilD) _).bind _ = _
    rw [tv hx ho rfl rfl, Option.bind_some]
    show (metF C "told_values" (fTV C) (atP 0) (consD (atP 2) nilD) _).map _ = _
    rw [tv hy ho2 rfl rfl]; rfl
  refine (seq_if_f ?_).trans ?_
  · rw [orB_f (asB_ (b := false) (by rw [bin_2 (d := sD x) (e := sD y) rfl rfl, sc_str, decide_eq_false hne]; rfl))]
    refine asB_ ?_
    rw [bin_2 (d := vD o) (e := vD o) rfl rfl, eq_vD hw hw, decide_eq_true rfl]; rfl
  refine (seq_nx (asg_ (names_ok h rfl))).trans (ret_f ?_)
  show app1 _ _ [.pu (colV C ps xs), .pu (sD x), .pu (sD y), .pu (vD o), .pu (vD o), .pu (.seq true ((keysOf ps xs).map sD))] = _
  rw [app_2 (d := colV C ps xs) (e := .seq false (stepsOf (keysOf ps xs) (.same x y))) rfl (tup1 (tup3 rfl (by rw [bin_2 (d := .seq true ((keysOf ps xs).map sD)) (e := sD x) rfl rfl, index_ok hm]) (by rw [bin_2 (d := .seq true ((keysOf ps xs).map sD)) (e := sD y) rfl rfl, index_ok hm2])))]
  exact mk_look
/-! the operators -/
theorem star2 {φ : L2.Tr.Env → Option D} {χ : L2.Tr.Env → Option (List D)} {ρ : L2.Tr.Env} {b : Bool} {as es : List D} (h : φ ρ = some (.seq b as)) (h2 : χ ρ = some es) : starD φ χ ρ = some (as ++ es) := by
  unfold starD
  rw [h, Option.bind_some]
  show ((some as).bind fun xs => (χ ρ).map (xs ++ ·)) = _
  rw [h2]; rfl
theorem fldS' {c s : D} {ρ : L2.Tr.Env} {i : Nat} (h : atP i ρ = some (.obj C3 ["columns", "steps"] [c, s])) : fldF C3 "steps" (atP i) ρ = some s := by
  unfold fldF
  rw [h, Option.bind_some]
  unfold fldD
  simp [getS]
  intro z
  exact absurd z (by decide +kernel)
theorem fldC' {c s : D} {ρ : L2.Tr.Env} {i : Nat} (h : atP i ρ = some (.obj C3 ["columns", "steps"] [c, s])) : fldF C3 "columns" (atP i) ρ = some c := by
  unfold fldF
  rw [h, Option.bind_some]
  unfold fldD
  simp [getS]
abbrev lookS (C3 : Addr) (c : D) (ss : List D) : D := .obj C3 ["columns", "steps"] [c, .seq false ss]
theorem eqO_ok (h : Cols ps xs) {neg : Bool} : eqOD neg C (fEq C) (colV C ps xs) (colV C ps xs) = some (bD (xor neg true)) := by
  unfold eqOD
  show ite (C = C ∧ okOther C (colV C ps xs) = true) _ _ = _
  rw [if_pos ⟨rfl, by unfold okOther colV; simp⟩]
  show ((fEq C [colV C ps xs, colV C ps xs]).bind asB).map _ = _
  rw [eq_ok h h, decide_eq_true rfl]
  rfl
theorem joined_ok (h : Cols ps xs) {ss st : List D} {x : Str} (hl : ss.length + st.length < 5000) : fJoined C C3 (fEq C) [lookS C3 (colV C ps xs) ss, lookS C3 (colV C ps xs) st, sD x] = some (lookS C3 (colV C ps xs) (ss ++ (st ++ [nmT x]))) := by
  refine run_rt ?_
  show FJoined C C3 (fEq C) [.pu (lookS C3 (colV C ps xs) ss), .pu (lookS C3 (colV C ps xs) st), .pu (sD x)] = _
  refine (seq_if_f (asB_ (b := false) ?_)).trans (ret_f ?_)
  · rw [bin_2 (fldC' rfl) (fldC' rfl), eqO_ok h]; rfl
  have e1 : tupDisp (starD (fldF C3 "steps" (atP 0)) (starD (fldF C3 "steps" (atP 1)) (consD (tupDisp (consD (atP 2) nilD)) nilD))) [.pu (lookS C3 (colV C ps xs) ss), .pu (lookS C3 (colV C ps xs) st), .pu (sD x)] = some (.seq false (ss ++ (st ++ [nmT x]))) := by
    show (starD _ _ _).bind _ = _
    rw [star2 (fldS' rfl) (star2 (fldS' rfl) (cons_ (tup1 (d := sD x) rfl) rfl)), Option.bind_some, if_pos]
    · rfl
    · rw [List.length_append, List.length_append]
      have : [D.seq false [sD x]].length = 1 := rfl
      have : Lim = 5000 := rfl
      omega
  rw [app_2 (fldC' rfl) e1]
  exact mk_look
theorem inv_ok {ss : List D} {c : D} (hl : ss.length < 5000) : ownUD C3 (fLInv C3) (lookS C3 c ss) = some (lookS C3 c (ss ++ [nmT "not"])) := by
  show ite (C3 = C3) _ _ = _
  rw [if_pos rfl]
  refine run_rt (ret_f ?_)
  have e1 : tupDisp (starD (fldF C3 "steps" (atP 0)) (consD (tupDisp (consD (kD (.leaf (.str "not"))) nilD)) nilD)) [.pu (lookS C3 c ss)] = some (.seq false (ss ++ [nmT "not"])) := by
    show (starD _ _ _).bind _ = _
    rw [star2 (fldS' rfl) (cons_ (tup1 (d := sD "not") rfl) rfl), Option.bind_some, if_pos]
    · rfl
    · rw [List.length_append]
      have : [D.seq false [sD "not"]].length = 1 := rfl
      have : Lim = 5000 := rfl
      omega
  show app1 _ _ [.pu (lookS C3 c ss)] = _
  rw [app_2 (fldC' rfl) e1]
  exact mk_look
theorem ownB_of {g : List D → Option D} {c d : D} {ss st su : List D} (h : g [lookS C3 c ss, lookS C3 d st] = some (lookS C3 c su)) : ownBD C3 g (lookS C3 c ss) (lookS C3 d st) = some (lookS C3 c su) := by
  show ite (C3 = C3 ∧ C3 = C3) _ _ = _
  rw [if_pos ⟨rfl, rfl⟩, h]
  rfl
theorem and_ok (h : Cols ps xs) {ss st : List D} (hl : ss.length + st.length < 5000) : ownBD C3 (fLAnd C C3 (fEq C)) (lookS C3 (colV C ps xs) ss) (lookS C3 (colV C ps xs) st) = some (lookS C3 (colV C ps xs) (ss ++ (st ++ [nmT "and"]))) := by
  refine ownB_of (run_rt (ret_f ?_))
  show (consD _ _ [.pu (lookS C3 (colV C ps xs) ss), .pu (lookS C3 (colV C ps xs) st)]).bind _ = _
  rw [cons_ (d := lookS C3 (colV C ps xs) ss) rfl (cons_ (d := lookS C3 (colV C ps xs) st) rfl (cons_ (d := sD "and") rfl rfl)), Option.bind_some, joined_ok h hl]
theorem or_ok (h : Cols ps xs) {ss st : List D} (hl : ss.length + st.length < 5000) : ownBD C3 (fLOr C C3 (fEq C)) (lookS C3 (colV C ps xs) ss) (lookS C3 (colV C ps xs) st) = some (lookS C3 (colV C ps xs) (ss ++ (st ++ [nmT "or"]))) := by
  refine ownB_of (run_rt (ret_f ?_))
  show (consD _ _ [.pu (lookS C3 (colV C ps xs) ss), .pu (lookS C3 (colV C ps xs) st)]).bind _ = _
  rw [cons_ (d := lookS C3 (colV C ps xs) ss) rfl (cons_ (d := lookS C3 (colV C ps xs) st) rfl (cons_ (d := sD "or") rfl rfl)), Option.bind_some, joined_ok h hl]
theorem sub_ok (h : Cols ps xs) {ss st : List D} (hl : ss.length + st.length + 1 < 5000) : ownBD C3 (fLSub C C3 (fEq C)) (lookS C3 (colV C ps xs) ss) (lookS C3 (colV C ps xs) st) = some (lookS C3 (colV C ps xs) (ss ++ ((st ++ [nmT "not"]) ++ [nmT "and"]))) := by
  refine ownB_of (run_rt (ret_f ?_))
  rw [bin_2 (d := lookS C3 (colV C ps xs) ss) rfl (e := lookS C3 (colV C ps xs) (st ++ [nmT "not"])) (inv_ok (by omega))]
  exact and_ok h (by rw [List.length_append]; have : [nmT "not"].length = 1 := rfl; omega)
theorem xor_ok (h : Cols ps xs) {ss st : List D} (hl : 2 * (ss.length + st.length) + 3 < 5000) : ownBD C3 (fLXor C C3 (fEq C)) (lookS C3 (colV C ps xs) ss) (lookS C3 (colV C ps xs) st) = some (lookS C3 (colV C ps xs) ((ss ++ (st ++ [nmT "or"])) ++ (((ss ++ (st ++ [nmT "and"])) ++ [nmT "not"]) ++ [nmT "and"]))) := by
  refine ownB_of (run_rt (ret_f ?_))
  have n1 : ∀ x : Str, [nmT x].length = 1 := fun _ => rfl
  have e1 : bin2 (ownBD C3 (fLOr C C3 (fEq C))) (atP 0) (atP 1) [.pu (lookS C3 (colV C ps xs) ss), .pu (lookS C3 (colV C ps xs) st)] = some (lookS C3 (colV C ps xs) (ss ++ (st ++ [nmT "or"]))) := by
    rw [bin_2 (d := lookS C3 (colV C ps xs) ss) rfl (e := lookS C3 (colV C ps xs) st) rfl, or_ok h (by omega)]
  have e2 : (bin2 (ownBD C3 (fLAnd C C3 (fEq C))) (atP 0) (atP 1) [.pu (lookS C3 (colV C ps xs) ss), .pu (lookS C3 (colV C ps xs) st)]).bind (ownUD C3 (fLInv C3)) = some (lookS C3 (colV C ps xs) ((ss ++ (st ++ [nmT "and"])) ++ [nmT "not"])) := by
    rw [bin_2 (d := lookS C3 (colV C ps xs) ss) rfl (e := lookS C3 (colV C ps xs) st) rfl, and_ok h (by omega), Option.bind_some, inv_ok (by rw [List.length_append, List.length_append, n1]; omega)]
  show bin2 (ownBD C3 (fLAnd C C3 (fEq C))) _ _ [.pu (lookS C3 (colV C ps xs) ss), .pu (lookS C3 (colV C ps xs) st)] = _
  rw [bin_2 e1 e2]
  refine and_ok h ?_
  rw [List.length_append, List.length_append, List.length_append, List.length_append, List.length_append, n1, n1, n1]
  omega
end
/-! looks as the law tells them -/
def opN : Op4 → Str
  | .and => "and"
  | .or => "or"
  | .less => "less"
  | .xor => "xor"
def lkD : Lk → D
  | .has x ws => .seq false [sD "has", sD x, .seq false (ws.map sD)]
  | .same x y => .seq false [sD "same", sD x, sD y]
  | .numb ns => .seq false [sD "numbered", .seq false (ns.map iD)]
  | .every => .seq false [sD "every"]
  | .not l => .seq false [sD "not", lkD l]
  | .bin o l m => .seq false [sD (opN o), lkD l, lkD m]
/-- looks that can be made over such columns -/
def LkOk (ps : List (Str × List Str)) (xs : List Str) : Lk → Prop
  | .has x ws => ∃ (j : Nat) (o : Option (List Str)), (keysOf ps xs)[j]? = some x ∧ (osOf ps xs)[j]? = some o ∧ WordsOk o ws
  | .same x y => ∃ (i j : Nat) (o : Option (List Str)), (keysOf ps xs)[i]? = some x ∧ (osOf ps xs)[i]? = some o ∧ (keysOf ps xs)[j]? = some y ∧ (osOf ps xs)[j]? = some o ∧ x ≠ y
  | .numb ns => ns ≠ [] ∧ ns.length ≤ 100 ∧ ∀ n ∈ ns, 1 ≤ n ∧ n ≤ 4
  | .every => True
  | .not l => LkOk ps xs l
  | .bin _ l m => LkOk ps xs l ∧ LkOk ps xs m
theorem LkOk.named {ps : List (Str × List Str)} {xs : List Str} : ∀ {l : Lk}, LkOk ps xs l → Named (keysOf ps xs) l
  | .has x ws, ⟨j, o, h, _⟩ => List.mem_of_getElem? h
  | .same x y, ⟨i, j, o, h, _, h2, _⟩ => ⟨List.mem_of_getElem? h, List.mem_of_getElem? h2⟩
  | .numb ns, _ => trivial
  | .every, _ => trivial
  | .not l, h => LkOk.named (l := l) h
  | .bin _ l m, h => ⟨LkOk.named (l := l) h.1, LkOk.named (l := m) h.2⟩
def dep : Lk → Nat
  | .not l => dep l + 1
  | .bin _ l m => max (dep l) (dep m) + 1
  | _ => 0
def sizeB : Nat → Nat
  | 0 => 1
  | n + 1 => 4 * sizeB n + 4
theorem size_mono {n : Nat} : sizeB n ≤ sizeB (n + 1) := by show _ ≤ 4 * sizeB n + 4; omega
theorem size_le {m n : Nat} (h : m ≤ n) : sizeB m ≤ sizeB n := by
  induction h with
  | refl => exact Nat.le_refl _
  | step _ ih => exact Nat.le_trans ih size_mono
theorem steps_le {ks : List Str} : ∀ l : Lk, (stepsOf ks l).length ≤ sizeB (dep l)
  | .has x ws => Nat.le_refl 1
  | .same x y => Nat.le_refl 1
  | .numb ns => Nat.le_refl 1
  | .every => Nat.le_refl 1
  | .not l => by
    have := steps_le (ks := ks) l
    unfold stepsOf
    rw [List.length_append]
    show _ + 1 ≤ 4 * sizeB (dep l) + 4
    omega
  | .bin o l m => by
    have a := steps_le (ks := ks) l
    have b := steps_le (ks := ks) m
    have c := size_le (Nat.le_max_left (dep l) (dep m))
    have d := size_le (Nat.le_max_right (dep l) (dep m))
    have n1 : ∀ x : Str, [nmT x].length = 1 := fun _ => rfl
    have e : (stepsOf ks (.bin o l m)).length ≤ 4 * sizeB (max (dep l) (dep m)) + 4 := by
      cases o <;> (unfold stepsOf; simp only [List.length_append, n1]; omega)
    exact e
/-! the law's look_of, by levels -/
def fOf (C C3 : Addr) : Nat → List D → Option D
  | 0 => fun _ => none
  | n + 1 => fLookOf C3 (fHas C C3) (fSame2 C C3) (fNumb C C3) (fEvery C3) (fLAnd C C3 (fEq C)) (fLOr C C3 (fEq C)) (fLSub C C3 (fEq C)) (fLXor C C3 (fEq C)) (fLInv C3) (fOf C C3 n)
section
variable {C C3 : Addr} {ps : List (Str × List Str)} {xs : List Str}
theorem is2_ {x y : Str} {ρ : L2.Tr.Env} {i : Nat} (h : atP i ρ = some (sD x)) : asBF (bin2 (scD false) (atP i) (kD (.leaf (.str y)))) ρ = some (decide (x = y)) := asB_ (by rw [bin_2 h (e := sD y) rfl, sc_str, Bool.false_xor])
theorem isT_ {x : Str} {ρ : L2.Tr.Env} {i : Nat} (h : atP i ρ = some (sD x)) : asBF (bin2 (scD false) (atP i) (kD (.leaf (.str x)))) ρ = some true := by rw [is2_ h, decide_eq_true rfl]
theorem isF_ {x y : Str} {ρ : L2.Tr.Env} {i : Nat} (h : atP i ρ = some (sD x)) (hne : x ≠ y := by decide +kernel) : asBF (bin2 (scD false) (atP i) (kD (.leaf (.str y)))) ρ = some false := by rw [is2_ h, decide_eq_false hne]
theorem ix0 {ρ : L2.Tr.Env} {i : Nat} {b : Bool} {d : D} {r : List D} (h : atP i ρ = some (.seq b (d :: r))) : bin2 ixD (atP i) (kD (.leaf (.int 0))) ρ = some d := by
  rw [bin_2 h (e := iD 0) rfl]; exact ix_nat (b := b) (ds := d :: r) (j := 0) (Nat.succ_pos _)
theorem ix1 {ρ : L2.Tr.Env} {i : Nat} {b : Bool} {d e : D} {r : List D} (h : atP i ρ = some (.seq b (d :: e :: r))) : bin2 ixD (atP i) (kD (.leaf (.int 1))) ρ = some e := by
  rw [bin_2 h (e := iD 1) rfl]; exact ix_nat (b := b) (ds := d :: e :: r) (j := 1) (by simp)
theorem ix2 {ρ : L2.Tr.Env} {i : Nat} {b : Bool} {d e f : D} {r : List D} (h : atP i ρ = some (.seq b (d :: e :: f :: r))) : bin2 ixD (atP i) (kD (.leaf (.int 2))) ρ = some f := by
  rw [bin_2 h (e := iD 2) rfl]; exact ix_nat (b := b) (ds := d :: e :: f :: r) (j := 2) (by simp)
theorem app_3 {β : Type} {op : List D → Option β} {φ ψ χ : L2.Tr.Env → Option D} {ρ : L2.Tr.Env} {d e f : D} (h : φ ρ = some d) (h2 : ψ ρ = some e) (h3 : χ ρ = some f) : app1 op (consD φ (consD ψ (consD χ nilD))) ρ = op [d, e, f] := by
  unfold app1
  rw [cons_ h (cons_ h2 (cons_ h3 rfl))]; rfl
theorem of_ok (h : Cols ps xs) : ∀ (n : Nat) (l : Lk), LkOk ps xs l → dep l < n → dep l ≤ 3 → fOf C C3 n [colV C ps xs, lkD l] = some (lookV C3 (colV C ps xs) (keysOf ps xs) l)
  | 0, l, _, h0, _ => absurd h0 (Nat.not_lt_zero _)
  | n + 1, l, hk, hd, h3 => by
    have s2 : sizeB 2 = 36 := rfl
    have ev : ∀ k, dep l = k + 1 → sizeB k ≤ 36 := fun k e => by have := size_le (show k ≤ 2 by omega); omega
    show runF nLookOf.length (FLookOf C3 _ _ _ _ _ _ _ _ _ (fOf C C3 n)) [colV C ps xs, lkD l] = _
    refine run_rt ?_
    show FLookOf C3 _ _ _ _ _ _ _ _ _ (fOf C C3 n) [.pu (colV C ps xs), .pu (lkD l), .un, .un, .un] = _
    cases l with
    | has x ws =>
      obtain ⟨j, o, h1, h2, hw⟩ := hk
      exact (seq_nx (asg_ (ix0 rfl))).trans (seq_if_t (isT_ rfl) (ret_f (by rw [app_3 (d := colV C ps xs) rfl (ix1 rfl) (ix2 rfl), has_ok h h1 h2 hw])))
    | same x y =>
      obtain ⟨i, j, o, h1, h2, h3, h4, hne⟩ := hk
      exact (seq_nx (asg_ (ix0 rfl))).trans ((seq_if_f (isF_ rfl)).trans (seq_if_t (isT_ rfl) (ret_f (by rw [app_3 (d := colV C ps xs) rfl (ix1 rfl) (ix2 rfl), same_ok h h1 h2 h3 h4 hne]))))
    | numb ns =>
      obtain ⟨h1, h2, h3⟩ := hk
      exact (seq_nx (asg_ (ix0 rfl))).trans ((seq_if_f (isF_ rfl)).trans ((seq_if_f (isF_ rfl)).trans (seq_if_t (isT_ rfl) (ret_f (by rw [app_2 (d := colV C ps xs) rfl (ix1 rfl), numb_ok h h1 h2 h3])))))
    | every =>
      exact (seq_nx (asg_ (ix0 rfl))).trans ((seq_if_f (isF_ rfl)).trans ((seq_if_f (isF_ rfl)).trans ((seq_if_f (isF_ rfl)).trans (seq_if_t (isT_ rfl) (ret_f (by rw [app_1 (d := colV C ps xs) rfl, every_ok]))))))
    | not l =>
      have d1 : dep l + 1 < n + 1 := hd
      have d3 : dep l + 1 ≤ 3 := h3
      have sl := Nat.le_trans (steps_le (ks := keysOf ps xs) l) (ev (dep l) rfl)
      have e1 := of_ok h n l hk (by omega) (by omega)
      refine (seq_nx (asg_ (ix0 rfl))).trans ((seq_if_f (isF_ rfl)).trans ((seq_if_f (isF_ rfl)).trans ((seq_if_f (isF_ rfl)).trans ((seq_if_f (isF_ rfl)).trans ((seq_nx (asg_ (by rw [app_2 (d := colV C ps xs) rfl (ix1 rfl), e1]))).trans (seq_if_t (isT_ rfl) (ret_f ?_)))))))
      exact inv_ok (by omega)
    | bin o l m =>
      have d1 : max (dep l) (dep m) + 1 < n + 1 := hd
      have d3 : max (dep l) (dep m) + 1 ≤ 3 := h3
      have dl := Nat.le_max_left (dep l) (dep m)
      have dm := Nat.le_max_right (dep l) (dep m)
      have sl := Nat.le_trans (Nat.le_trans (steps_le (ks := keysOf ps xs) l) (size_le dl)) (ev _ rfl)
      have sm := Nat.le_trans (Nat.le_trans (steps_le (ks := keysOf ps xs) m) (size_le dm)) (ev _ rfl)
      have e1 := of_ok h n l hk.1 (by omega) (by omega)
      have e2 := of_ok h n m hk.2 (by omega) (by omega)
      cases o with
      | and =>
        refine (seq_nx (asg_ (ix0 rfl))).trans ((seq_if_f (isF_ rfl)).trans ((seq_if_f (isF_ rfl)).trans ((seq_if_f (isF_ rfl)).trans ((seq_if_f (isF_ rfl)).trans ((seq_nx (asg_ (by rw [app_2 (d := colV C ps xs) rfl (ix1 rfl), e1]))).trans ((seq_if_f (isF_ rfl)).trans ((seq_nx (asg_ (by rw [app_2 (d := colV C ps xs) rfl (ix2 rfl), e2]))).trans (seq_if_t (isT_ rfl) (ret_f ?_)))))))))
        rw [bin_2 (d := lookV C3 (colV C ps xs) (keysOf ps xs) l) rfl (e := lookV C3 (colV C ps xs) (keysOf ps xs) m) rfl]
        exact and_ok h (by omega)
      | or =>
        refine (seq_nx (asg_ (ix0 rfl))).trans ((seq_if_f (isF_ rfl)).trans ((seq_if_f (isF_ rfl)).trans ((seq_if_f (isF_ rfl)).trans ((seq_if_f (isF_ rfl)).trans ((seq_nx (asg_ (by rw [app_2 (d := colV C ps xs) rfl (ix1 rfl), e1]))).trans ((seq_if_f (isF_ rfl)).trans ((seq_nx (asg_ (by rw [app_2 (d := colV C ps xs) rfl (ix2 rfl), e2]))).trans ((seq_if_f (isF_ rfl)).trans (seq_if_t (isT_ rfl) (ret_f ?_))))))))))
        rw [bin_2 (d := lookV C3 (colV C ps xs) (keysOf ps xs) l) rfl (e := lookV C3 (colV C ps xs) (keysOf ps xs) m) rfl]
        exact or_ok h (by omega)
      | less =>
        refine (seq_nx (asg_ (ix0 rfl))).trans ((seq_if_f (isF_ rfl)).trans ((seq_if_f (isF_ rfl)).trans ((seq_if_f (isF_ rfl)).trans ((seq_if_f (isF_ rfl)).trans ((seq_nx (asg_ (by rw [app_2 (d := colV C ps xs) rfl (ix1 rfl), e1]))).trans ((seq_if_f (isF_ rfl)).trans ((seq_nx (asg_ (by rw [app_2 (d := colV C ps xs) rfl (ix2 rfl), e2]))).trans ((seq_if_f (isF_ rfl)).trans ((seq_if_f (isF_ rfl)).trans (ret_f ?_))))))))))
        unfold ifF
        rw [isT_ (x := "less") rfl, Option.bind_some, if_pos rfl]
        rw [bin_2 (d := lookV C3 (colV C ps xs) (keysOf ps xs) l) rfl (e := lookV C3 (colV C ps xs) (keysOf ps xs) m) rfl]
        exact sub_ok h (by omega)
      | xor =>
        refine (seq_nx (asg_ (ix0 rfl))).trans ((seq_if_f (isF_ rfl)).trans ((seq_if_f (isF_ rfl)).trans ((seq_if_f (isF_ rfl)).trans ((seq_if_f (isF_ rfl)).trans ((seq_nx (asg_ (by rw [app_2 (d := colV C ps xs) rfl (ix1 rfl), e1]))).trans ((seq_if_f (isF_ rfl)).trans ((seq_nx (asg_ (by rw [app_2 (d := colV C ps xs) rfl (ix2 rfl), e2]))).trans ((seq_if_f (isF_ rfl)).trans ((seq_if_f (isF_ rfl)).trans (ret_f ?_))))))))))
        unfold ifF
        rw [isF_ (x := "xor") rfl, Option.bind_some, if_neg (by decide)]
        rw [bin_2 (d := lookV C3 (colV C ps xs) (keysOf ps xs) l) rfl (e := lookV C3 (colV C ps xs) (keysOf ps xs) m) rfl]
        exact xor_ok h (by omega)
end
end L2.K1

namespace L2.K1
open PySem PySem.Spec PyProof.Rows L2.Tr
/-! what the law says that a look holds of -/
def fHo : Nat → List D → Option D
  | 0 => fun _ => none
  | n + 1 => fHolds (fHo n)
section
variable {ps : List (Str × List Str)} {xs named row : List Str} {k : Int}
theorem row_ix {ks : List Str} {x : Str} {b : Bool} (hx : x ∈ ks) (hr : row.length = ks.length) : ixD (.seq b (row.map sD)) (iD (pos ks x : Nat)) = some (sD (row.getD (pos ks x) "")) := by
  have h := (pos_at hx).2
  have hl : pos ks x < ks.length := (List.getElem?_eq_some_iff.mp h).1
  show atI (row.map sD) (pos ks x : Nat) = _
  refine L2.atI_nat ?_
  rw [List.getElem?_map, List.getD_eq_getElem?_getD, List.getElem?_eq_getElem (by omega)]
  rfl
theorem holds_ok (hr : row.length = (keysOf ps xs).length) : ∀ (n : Nat) (l : Lk), Named (keysOf ps xs) l → dep l < n → fHo n [wD ps xs named, lkD l, .seq false (row.map sD), iD k] = some (bD (sem (keysOf ps xs) row k l))
  | 0, l, _, h0 => absurd h0 (Nat.not_lt_zero _)
  | n + 1, l, hk, hd => by
    show runF nHolds.length (FHolds (fHo n)) [wD ps xs named, lkD l, .seq false (row.map sD), iD k] = _
    refine run_rt ?_
    have p0 : ∀ {y : D} {r : List D}, lkD l = .seq false (y :: r) → par_pp 4 5 (bin2 ixD (atP 1) (kD (.leaf (.int 0)))) (bin2 dgD (atP 0) (kD (.leaf (.str "names")))) [.pu (wD ps xs named), .pu (lkD l), .pu (.seq false (row.map sD)), .pu (iD k), .un, .un, .un, .un] = some (.nx [.pu (wD ps xs named), .pu (lkD l), .pu (.seq false (row.map sD)), .pu (iD k), .pu y, .pu (.seq true ((keysOf ps xs).map sD)), .un, .un]) := fun {y r} e => by
      show (bin2 ixD (atP 1) (kD (.leaf (.int 0))) _).bind _ = _
      rw [ix0 (r := r) (d := y) (b := false) (by rw [← e]; rfl), Option.bind_some]
      show (bin2 dgD (atP 0) (kD (.leaf (.str "names"))) _).map _ = _
      rw [bin_2 (d := wD ps xs named) (e := sD "names") rfl rfl, w_names]
      rfl
    have at_ : ∀ {x : Str} {ρ : L2.Tr.Env} {φ : L2.Tr.Env → Option D}, x ∈ keysOf ps xs → atP 2 ρ = some (.seq false (row.map sD)) → atP 5 ρ = some (.seq true ((keysOf ps xs).map sD)) → φ ρ = some (sD x) → bin2 ixD (atP 2) (bin2 indexD (atP 5) φ) ρ = some (sD (row.getD (pos (keysOf ps xs) x) "")) := fun {x ρ φ} hm a b c => by
      rw [bin_2 a (by rw [bin_2 b c, index_ok hm]), row_ix hm hr]
    show FHolds (fHo n) [.pu (wD ps xs named), .pu (lkD l), .pu (.seq false (row.map sD)), .pu (iD k), .un, .un, .un, .un] = _
    cases l with
    | has x ws => exact (seq_nx (p0 rfl)).trans (seq_if_t (isT_ rfl) (ret_f (by rw [bin_2 (at_ hk rfl rfl (ix1 rfl)) (ix2 (d := sD "has") (e := sD x) (f := .seq false (ws.map sD)) (b := false) (r := []) rfl), inD_str, Bool.false_xor]; rfl)))
    | same x y => exact (seq_nx (p0 rfl)).trans ((seq_if_f (isF_ rfl)).trans (seq_if_t (isT_ rfl) (ret_f (by rw [bin_2 (at_ hk.1 rfl rfl (ix1 rfl)) (at_ hk.2 rfl rfl (ix2 rfl)), sc_str, Bool.false_xor]; rfl))))
    | numb ns => exact (seq_nx (p0 rfl)).trans ((seq_if_f (isF_ rfl)).trans ((seq_if_f (isF_ rfl)).trans (seq_if_t (isT_ rfl) (ret_f (by rw [bin_2 (d := iD k) rfl (ix1 (d := sD "numbered") (e := .seq false (ns.map iD)) (b := false) (r := []) rfl), inD_int, Bool.false_xor]; rfl)))))
    | every => exact (seq_nx (p0 rfl)).trans ((seq_if_f (isF_ rfl)).trans ((seq_if_f (isF_ rfl)).trans ((seq_if_f (isF_ rfl)).trans (seq_if_t (isT_ rfl) (ret_f rfl)))))
    | not l =>
      have d1 : dep l + 1 < n + 1 := hd
      have e1 := holds_ok hr n l hk (by omega)
      exact (seq_nx (p0 rfl)).trans ((seq_if_f (isF_ rfl)).trans ((seq_if_f (isF_ rfl)).trans ((seq_if_f (isF_ rfl)).trans ((seq_if_f (isF_ rfl)).trans ((seq_nx (asg_ (by
        show (consD _ _ _).bind _ = _
        rw [cons_ (d := wD ps xs named) rfl (cons_ (ix1 (d := sD "not") (e := lkD l) (b := false) (r := []) rfl) (cons_ (d := .seq false (row.map sD)) rfl (cons_ (d := iD k) rfl rfl))), Option.bind_some, e1]))).trans (seq_if_t (isT_ rfl) (ret_f rfl)))))))
    | bin o l m =>
      have d1 : max (dep l) (dep m) + 1 < n + 1 := hd
      have e1 := holds_ok hr n l hk.1 (by omega)
      have e2 := holds_ok hr n m hk.2 (by omega)
      have nn : ∀ y : Str, y ∈ (["has", "same", "numbered", "every", "not"] : List Str) → opN o ≠ y := by cases o <;> decide +kernel
      refine (seq_nx (p0 rfl)).trans ((seq_if_f (isF_ rfl (nn _ (by decide +kernel)))).trans ((seq_if_f (isF_ rfl (nn _ (by decide +kernel)))).trans ((seq_if_f (isF_ rfl (nn _ (by decide +kernel)))).trans ((seq_if_f (isF_ rfl (nn _ (by decide +kernel)))).trans ((seq_nx (asg_ (by
        show (consD _ _ _).bind _ = _
        rw [cons_ (d := wD ps xs named) rfl (cons_ (ix1 (d := sD (opN o)) (e := lkD l) (b := false) (r := [lkD m]) rfl) (cons_ (d := .seq false (row.map sD)) rfl (cons_ (d := iD k) rfl rfl))), Option.bind_some, e1]))).trans ((seq_if_f (isF_ rfl (nn _ (by decide +kernel)))).trans ((seq_nx (asg_ (by
        show (consD _ _ _).bind _ = _
        rw [cons_ (d := wD ps xs named) rfl (cons_ (ix2 (d := sD (opN o)) (e := lkD l) (f := lkD m) (b := false) (r := []) rfl) (cons_ (d := .seq false (row.map sD)) rfl (cons_ (d := iD k) rfl rfl))), Option.bind_some, e2]))).trans (ret_f ?_))))))))
      show bin2 dgD _ _ [.pu (wD ps xs named), .pu (lkD (.bin o l m)), .pu (.seq false (row.map sD)), .pu (iD k), .pu (sD (opN o)), .pu (.seq true ((keysOf ps xs).map sD)), .pu (bD (sem (keysOf ps xs) row k l)), .pu (bD (sem (keysOf ps xs) row k m))] = _
      show _ = some (bD (op4 o (sem (keysOf ps xs) row k l) (sem (keysOf ps xs) row k m)))
      cases sem (keysOf ps xs) row k l <;> cases sem (keysOf ps xs) row k m <;> cases o <;> rfl
end
end L2.K1

namespace L2.K1
open PySem PySem.Spec PyProof.Rows L2.Tr
/-! some of the things, drawn -/
theorem some_comp {a : Addr} {s1 s2 : Sl} : ∀ (ds : List D) (s3 : Sl) (n : Nat) (R : List D → Nat → Prop), n + ds.length ≤ 1000000 → (∀ zs, zs.Sublist ds → R zs (n + ds.length)) →
    compW (setF 3) (asW (b2W (scD false) (callW (drawW a) (consW (lf (atP 0)) (consW (lf (kD (.leaf (.int 2)))) nilW))) (lf (kD (.leaf (.int 0)))))) (lf (atP 3)) ds [.pu (.leaf (.ref a)), s1, s2, s3] n R
  | [], s3, n, R, hn, k => k [] (List.Sublist.refl _)
  | d :: ds, s3, n, R, hn, k => by
    have hn' : n + (ds.length + 1) ≤ 1000000 := hn
    refine ⟨[.pu (.leaf (.ref a)), s1, s2, .pu d], rfl, as_i (b2_i (call_i (cons_i rfl (cons_i rfl (nil_i ⟨2, rfl, by decide, by decide, by omega, fun i i0 i1 => lf_i rfl ?_⟩)))))⟩
    refine ⟨bD (xor false (decide (V.int i = V.int 0))), rfl, xor false (decide (V.int i = V.int 0)), rfl, ?_⟩
    have e : n + 1 + ds.length = n + (d :: ds).length := by rw [List.length_cons]; omega
    cases xor false (decide (V.int i = V.int 0)) with
    | true =>
      refine iT (lf_i rfl (some_comp ds s3 (n + 1) _ (by omega) fun zs hz => ?_))
      rw [e]
      exact k (d :: zs) (hz.cons₂ d)
    | false =>
      refine iF (some_comp ds s3 (n + 1) _ (by omega) fun zs hz => ?_)
      rw [e]
      exact k zs (hz.cons d)
theorem some_ok {a : Addr} {b : Bool} {ds : List D} {n : Nat} {R : D → Nat → Prop} (h0 : 0 < ds.length) (hl : ds.length ≤ 100) (he : ∀ zs, zs.Sublist ds → eqP true (.seq true zs) (.seq true []) = some (bD (!zs.isEmpty))) (hn : n + 101 ≤ 1000000)
    (k : ∀ zs n', zs.Sublist ds → zs ≠ [] → n' ≤ n + ds.length + 1 → R (.seq true zs) n') : fLSome a [.leaf (.ref a), .seq b ds] n R := by
  have hL : Lim = 5000 := rfl
  refine ⟨rfl, ?_⟩
  show FLSome a [.pu (.leaf (.ref a)), .pu (.seq b ds), .un, .un] n _
  refine seq_i (set_p (lf_i (d := ds) rfl ⟨by omega, some_comp ds .un n _ (by omega) fun zs hz => ?_⟩))
  refine ret_i ?_
  show ifW _ _ _ [.pu (.leaf (.ref a)), .pu (.seq b ds), .pu (.seq true zs), .un] (n + ds.length) _
  refine ⟨!zs.isEmpty, asB_ (by rw [bin_2 (d := .seq true zs) (e := .seq true []) rfl rfl, he zs hz]), ?_⟩
  cases zs with
  | cons z zs => exact iT (lf_i rfl (k _ _ hz (by simp) (by omega)))
  | nil =>
    refine iF ?_
    show lstW _ _ _ _
    refine consW_i (call_i (cons_i rfl (cons_i rfl (nil_i (pick_ok h0 (by omega) (by omega) fun d hd => nil_i ⟨by show 1 ≤ Lim; decide, k [d] _ (List.singleton_sublist.mpr hd) (by simp) (by omega)⟩)))))
/-- texts, ints as plain data -/
theorem shaped_strs {xs : List Str} (h : ∀ x ∈ xs, isW x = true) : SeqAt.shaped (.list (xs.map .str)) = true := by
  obtain ⟨h1, h2⟩ := lay_strs h
  unfold SeqAt.shaped
  rw [PyData.canLay0, h1, PyData.depth, h2]; rfl
theorem shaped_nil : SeqAt.shaped (.list []) = true := by
  unfold SeqAt.shaped
  rw [PyData.canLay0, PyData.canLayAll0, PyData.depth, PyData.depthAll]; rfl
theorem ne_nil_strs {xs : List Str} (h : ∀ x ∈ xs, isW x = true) : eqP true (.seq true (xs.map sD)) (.seq true []) = some (bD (!(xs.map sD).isEmpty)) := by
  unfold eqP
  rw [pyD, pyD, pyDs_str, pyDs]
  show (if SeqAt.shaped (.list (xs.map .str)) = true ∧ SeqAt.shaped (.list []) = true then some (bD (xor true (PyData.eqv (.list (xs.map .str)) (.list [])))) else none) = _
  rw [if_pos ⟨shaped_strs h, shaped_nil⟩, PyData.eqv, Bool.true_xor]
  congr 3
  cases xs with
  | nil => rfl
  | cons x xs => rw [List.map_cons, PyData.eqvAll]; rfl
theorem pyDs_int : ∀ is : List Int, pyDs (is.map iD) = some (is.map .int)
  | [] => rfl
  | i :: is => by rw [List.map_cons, pyDs, pyDs_int is]; rfl
theorem lay_ints : ∀ is : List Int, PyData.canLayAll0 (is.map .int) = true ∧ PyData.depthAll (is.map .int) = 0
  | [] => ⟨rfl, rfl⟩
  | i :: is => by
    obtain ⟨h1, h2⟩ := lay_ints is
    refine ⟨?_, ?_⟩
    · rw [List.map_cons, PyData.canLayAll0, PyData.canLay0, h1]; rfl
    · rw [List.map_cons, PyData.depthAll, h2, PyData.depth]; rfl
theorem ne_nil_ints (is : List Int) : eqP true (.seq true (is.map iD)) (.seq true []) = some (bD (!(is.map iD).isEmpty)) := by
  have hs : SeqAt.shaped (.list (is.map .int)) = true := by
    obtain ⟨h1, h2⟩ := lay_ints is
    unfold SeqAt.shaped
    rw [PyData.canLay0, h1, PyData.depth, h2]; rfl
  unfold eqP
  rw [pyD, pyD, pyDs_int, pyDs]
  show (if SeqAt.shaped (.list (is.map .int)) = true ∧ SeqAt.shaped (.list []) = true then some (bD (xor true (PyData.eqv (.list (is.map .int)) (.list [])))) else none) = _
  rw [if_pos ⟨hs, shaped_nil⟩, PyData.eqv, Bool.true_xor]
  congr 3
  cases is with
  | nil => rfl
  | cons x xs => rw [List.map_cons, PyData.eqvAll]; rfl
theorem comp_fm {α : Type} {θ : D → L2.Tr.Env → Option L2.Tr.Env} {χ : L2.Tr.Env → Option Bool} {φ : L2.Tr.Env → Option D} {ρ : L2.Tr.Env} (f : α → D) (p : α → Bool) (g : α → D) : ∀ {cs : List α}, (∀ c ∈ cs, ∃ ρ1, θ (f c) ρ = some ρ1 ∧ χ ρ1 = some (p c) ∧ (p c = true → φ ρ1 = some (g c))) → compF θ χ φ (cs.map f) ρ = some ((cs.filter p).map g)
  | [], _ => rfl
  | c :: cs, h => by
    obtain ⟨ρ1, h1, h2, h3⟩ := h c List.mem_cons_self
    rw [List.map_cons]
    unfold compF
    rw [h1, Option.bind_some, h2, Option.bind_some, comp_fm f p g fun x hx => h x (List.mem_cons_of_mem _ hx), List.filter_cons]
    cases hp : p c with
    | true => rw [if_pos rfl, if_pos rfl, h3 hp]; rfl
    | false => rw [if_neg (by decide), if_neg (by decide)]
section
variable {ps : List (Str × List Str)} {xs named : List Str}
theorem cs_fst : (csOf ps xs).map (·.1) = keysOf ps xs := by
  unfold csOf keysOf
  rw [List.map_append, List.map_map, List.map_map]
  congr 1
  exact List.map_id' xs
theorem cs_snd : (csOf ps xs).map (·.2) = osOf ps xs := by
  unfold csOf osOf
  rw [List.map_append, List.map_map, List.map_map]
  rfl
theorem cs_at {c : Col} (h : c ∈ csOf ps xs) : ∃ j : Nat, (keysOf ps xs)[j]? = some c.1 ∧ (osOf ps xs)[j]? = some c.2 := by
  obtain ⟨j, hj, e⟩ := List.getElem_of_mem h
  have e2 : (csOf ps xs)[j]? = some c := by rw [List.getElem?_eq_getElem hj, e]
  exact ⟨j, by rw [← cs_fst, List.getElem?_map, e2]; rfl, by rw [← cs_snd, List.getElem?_map, e2]; rfl⟩
theorem zipw_at {i : Nat} {ρ : L2.Tr.Env} (h0 : atP i ρ = some (wD ps xs named)) : zipF (bin2 dgD (atP i) (kD (.leaf (.str "names")))) (bin2 dgD (atP i) (kD (.leaf (.str "values")))) ρ = some (pairsOf ps xs) := by
  unfold zipF
  rw [bin_2 (d := .seq true ((keysOf ps xs).map sD)) (e := .seq true (valsOf ps xs)) (by rw [bin_2 h0 (e := .leaf (.str "names")) rfl]; rfl) (by rw [bin_2 h0 (e := .leaf (.str "values")) rfl]; rfl)]
  show (if true = true then some (zipL ((keysOf ps xs).map sD) (valsOf ps xs)) else none) = _
  rw [if_pos rfl, zip_w]
theorem name_at {i q : Nat} {ρ : L2.Tr.Env} {j : Nat} {x : Str} (h0 : atP i ρ = some (wD ps xs named)) (h1 : atP q ρ = some (iD (j : Int))) (hx : (keysOf ps xs)[j]? = some x) : bin2 ixD (bin2 dgD (atP i) (kD (.leaf (.str "names")))) (atP q) ρ = some (sD x) := by
  rw [bin_2 (d := .seq true ((keysOf ps xs).map sD)) (by rw [bin_2 h0 (e := .leaf (.str "names")) rfl]; rfl) h1]
  show atI ((keysOf ps xs).map sD) (j : Nat) = _
  exact L2.atI_nat (by rw [List.getElem?_map, hx]; rfl)
theorem val_at {i q : Nat} {ρ : L2.Tr.Env} {j : Nat} {o : Option (List Str)} (h0 : atP i ρ = some (wD ps xs named)) (h1 : atP q ρ = some (iD (j : Int))) (ho : (osOf ps xs)[j]? = some o) : bin2 ixD (bin2 dgD (atP i) (kD (.leaf (.str "values")))) (atP q) ρ = some (vD o) := by
  rw [bin_2 (d := .seq true (valsOf ps xs)) (by rw [bin_2 h0 (e := .leaf (.str "values")) rfl]; rfl) h1]
  show atI (valsOf ps xs) (j : Nat) = _
  exact L2.atI_nat (by rw [vals_os, List.getElem?_map, ho]; rfl)
end
end L2.K1

namespace L2.K1
open PySem PySem.Spec PyProof.Rows L2.Tr
section
variable {ps : List (Str × List Str)} {xs named : List Str} {a : Addr}
/-- what a look that is drawn may be -/
def DrawnL (ps : List (Str × List Str)) (xs : List Str) (d n b : Nat) (R : D → Nat → Prop) : Prop := ∀ l n', LkOk ps xs l → dep l ≤ d → n' ≤ n + b → R (lkD l) n'
theorem words_drawn {h : Cols ps xs} {j : Nat} {x : Str} {o : Option (List Str)} {ds : List Str} {b : Bool} {n : Nat} {R : List D → Nat → Prop} {φ : L2.Tr.Env → Option D} {ρ : L2.Tr.Env} (h0 : atP 0 ρ = some (.leaf (.ref a))) (hφ : φ ρ = some (.seq b (ds.map sD))) (hd0 : 0 < ds.length) (hd4 : ds.length ≤ 4) (hnd : ds.Nodup) (hw : ∀ w ∈ ds, isW w = true) (hv : ∀ w ∈ ds, ∀ vs, o = some vs → w ∈ vs) (hn : n + 200 ≤ 1000000)
    (k : ∀ ws n', WordsOk o ws → n' ≤ n + 5 → R [.seq false (ws.map sD)] n') : consW (ap1W tupD (consW (callW (fLSome a) (consW (lf (atP 0)) (consW (lf φ) nilW))) nilW)) nilW ρ n R := by
  refine consW_i (ap_i (consW_i (call_i (cons_i h0 (cons_i hφ (nil_i (some_ok (by rw [List.length_map]; exact hd0) (by rw [List.length_map]; omega) (fun zs hz => ?_) (by omega) fun zs n' hz hne hn' => nil_i ?_)))))))
  · obtain ⟨ws, hs, rfl⟩ := List.sublist_map_iff.mp hz
    exact ne_nil_strs fun x hx => hw x (hs.subset hx)
  · obtain ⟨ws, hs, rfl⟩ := List.sublist_map_iff.mp hz
    rw [List.length_map] at hn'
    refine ⟨.seq false (ws.map sD), rfl, nil_i (k ws n' ⟨fun e => hne (by rw [e]; rfl), hs.nodup hnd, ?_, fun x hx => hw x (hs.subset hx), fun x hx => hv x (hs.subset hx)⟩ (by omega))⟩
    have := hs.length_le
    omega
theorem simple_ok (h : Cols ps xs) (hn2 : named.length = 2) (hnd : named.Nodup) (hnw : ∀ x ∈ named, isW x = true) {n : Nat} {R : D → Nat → Prop} (hn : n + 300 ≤ 1000000) (k : DrawnL ps xs 0 n 10 R) : fSLook a [.leaf (.ref a), wD ps xs named, iD 4] n R := by
  have hL : Lim = 5000 := rfl
  have hk := keys_len (ps := ps) (xs := xs)
  have h3 := h.l3
  have h1 := h.l1
  refine ⟨rfl, ?_⟩
  show FSLook a [.pu (.leaf (.ref a)), .pu (wD ps xs named), .pu (iD 4), .un, .un, .un, .un, .un, .un, .un] n _
  refine seq_i (asg_i (tup_i (consW_i (call_i (cons_i rfl (cons_i rfl (nil_i ⟨9, rfl, by decide, by decide, by omega, fun w w0 w9 => consW_i (call_i (cons_i rfl (cons_i (d := iD ((keysOf ps xs).length : Nat)) ?_ (nil_i ⟨((keysOf ps xs).length : Nat), rfl, by omega, by omega, by omega, fun i i0 i1 => nil_i ⟨by show 2 ≤ Lim; decide, ?_⟩⟩))))⟩)))))))
  · rw [app_1 (d := .seq true ((keysOf ps xs).map sD)) rfl]
    show some (iD (((keysOf ps xs).map sD).length : Nat)) = _
    rw [List.length_map]
  obtain ⟨j, rfl⟩ := Int.eq_ofNat_of_zero_le i0
  have hj : j < (keysOf ps xs).length := by have : ((j : Nat) : Int) < ((keysOf ps xs).length : Int) := i1; omega
  obtain ⟨x, hx⟩ : ∃ x, (keysOf ps xs)[j]? = some x := ⟨_, List.getElem?_eq_getElem hj⟩
  obtain ⟨o, ho⟩ : ∃ o, (osOf ps xs)[j]? = some o := ⟨_, List.getElem?_eq_getElem (by rw [os_len]; omega)⟩
  have how := os_words h (List.mem_of_getElem? ho)
  refine ⟨[.pu (.leaf (.ref a)), .pu (wD ps xs named), .pu (iD 4), .pu (iD w), .pu (iD (j : Int)), .un, .un, .un, .un, .un], rfl, ?_⟩
  -- kin
  have e5 : mapS (lcF [6, 7] (zipF (bin2 dgD (atP 1) (kD (.leaf (.str "names")))) (bin2 dgD (atP 1) (kD (.leaf (.str "values"))))) (tupT 2 (consT (setF 6) (consT (setF 7) nilT))) (asBF (bin2 (eqP false) (atP 7) (bin2 ixD (bin2 dgD (atP 1) (kD (.leaf (.str "values")))) (atP 4)))) (atP 6)) [.pu (.leaf (.ref a)), .pu (wD ps xs named), .pu (iD 4), .pu (iD w), .pu (iD (j : Int)), .un, .un, .un, .un, .un] = some (.seq true (((csOf ps xs).filter fun c => decide (c.2 = o)).map fun c => sD c.1)) := by
    refine maps_ ?_
    rw [lc_ (zipw_at rfl) (pairs_len h)]
    refine comp_fm (ρ := [.pu (.leaf (.ref a)), .pu (wD ps xs named), .pu (iD 4), .pu (iD w), .pu (iD (j : Int)), .un, .un, .un, .un, .un]) itemD (fun c => decide (c.2 = o)) (fun c => sD c.1) fun c hc => ?_
    obtain ⟨q, q1, q2⟩ := cs_at hc
    refine ⟨[.pu (.leaf (.ref a)), .pu (wD ps xs named), .pu (iD 4), .pu (iD w), .pu (iD (j : Int)), .un, .pu (sD c.1), .pu (vD c.2), .un, .un], rfl, asB_ ?_, fun _ => rfl⟩
    rw [bin_2 (d := vD c.2) rfl (val_at rfl rfl ho), eq_vD (os_words h (List.mem_of_getElem? q2)) how, Bool.false_xor]
  refine seq_i (lfS_i (o := .nx [.pu (.leaf (.ref a)), .pu (wD ps xs named), .pu (iD 4), .pu (iD w), .pu (iD (j : Int)), .pu (.seq true (((csOf ps xs).filter fun c => decide (c.2 = o)).map fun c => sD c.1)), .un, .un, .un, .un]) (asg_ e5) ?_)
  have e8 : mapS (lcF [6] (seqsF (atP 5)) (setF 6) (asBF (bin2 (scD true) (atP 6) (bin2 ixD (bin2 dgD (atP 1) (kD (.leaf (.str "names")))) (atP 4)))) (atP 6)) [.pu (.leaf (.ref a)), .pu (wD ps xs named), .pu (iD 4), .pu (iD w), .pu (iD (j : Int)), .pu (.seq true (((csOf ps xs).filter fun c => decide (c.2 = o)).map fun c => sD c.1)), .un, .un, .un, .un] = some (.seq true ((((csOf ps xs).filter fun c => decide (c.2 = o)).filter fun c => !decide (c.1 = x)).map fun c => sD c.1)) := by
    refine maps_ ?_
    rw [lc_ (ds := ((csOf ps xs).filter fun c => decide (c.2 = o)).map fun c => sD c.1) rfl (by
      rw [List.length_map]
      have := List.length_filter_le (fun c : Col => decide (c.2 = o)) (csOf ps xs)
      have : (csOf ps xs).length = (keysOf ps xs).length := by rw [← cs_fst, List.length_map]
      omega)]
    refine comp_fm (ρ := [.pu (.leaf (.ref a)), .pu (wD ps xs named), .pu (iD 4), .pu (iD w), .pu (iD (j : Int)), .pu (.seq true (((csOf ps xs).filter fun c => decide (c.2 = o)).map fun c => sD c.1)), .un, .un, .un, .un]) (fun c : Col => sD c.1) (fun c => !decide (c.1 = x)) (fun c => sD c.1) fun c hc => ?_
    refine ⟨[.pu (.leaf (.ref a)), .pu (wD ps xs named), .pu (iD 4), .pu (iD w), .pu (iD (j : Int)), .pu (.seq true (((csOf ps xs).filter fun c => decide (c.2 = o)).map fun c => sD c.1)), .pu (sD c.1), .un, .un, .un], rfl, asB_ ?_, fun _ => rfl⟩
    rw [bin_2 (d := sD c.1) rfl (name_at rfl rfl hx), sc_str, Bool.true_xor]
  have mem8 : ∀ c ∈ ((csOf ps xs).filter fun c => decide (c.2 = o)).filter fun c => !decide (c.1 = x), c ∈ csOf ps xs ∧ c.2 = o ∧ x ≠ c.1 := fun c hc => by
    obtain ⟨m1, m2⟩ := List.mem_filter.mp hc
    obtain ⟨m3, m4⟩ := List.mem_filter.mp m1
    refine ⟨m3, of_decide_eq_true m4, fun z => ?_⟩
    rw [decide_eq_true z.symm] at m2
    exact Bool.false_ne_true m2
  generalize (((csOf ps xs).filter fun c => decide (c.2 = o)).filter fun c => !decide (c.1 = x)) = cs8 at e8 mem8
  generalize (D.seq true (((csOf ps xs).filter fun c => decide (c.2 = o)).map fun c => sD c.1)) = d5 at e8 ⊢
  refine seq_i (lfS_i (o := .nx [.pu (.leaf (.ref a)), .pu (wD ps xs named), .pu (iD 4), .pu (iD w), .pu (iD (j : Int)), .pu d5, .un, .un, .pu (.seq true (cs8.map fun c => sD c.1)), .un]) (asg_ e8) ?_)
  -- every
  have isI : ∀ {q : Int} {ρ : L2.Tr.Env}, atP 3 ρ = some (iD w) → asBF (bin2 (scD false) (atP 3) (kD (.leaf (.int q)))) ρ = some (decide (w = q)) := fun {q ρ} e => asB_ (by
    rw [bin_2 e (e := iD q) rfl]
    show some (bD (xor false (decide (V.int w = V.int q)))) = _
    rw [Bool.false_xor]
    congr 2
    exact decide_eq_decide.mpr ⟨fun z => V.int.inj z, fun z => by rw [z]⟩)
  by_cases w0' : w = 0
  · refine seq_i (lfS_i (o := .rt (lkD .every)) ((ifs_t ((isI rfl).trans (by rw [decide_eq_true w0']))).trans (ret_f (tup1 rfl))) ?_)
    exact k .every _ trivial (Nat.le_refl 0) (by omega)
  refine seq_i (lfS_i (o := .nx _) ((ifs_f ((isI rfl).trans (by rw [decide_eq_false w0']))).trans rfl) ?_)
  -- same
  have e81 : asBF (bin2 (eqP true) (atP 8) (mapS (lstDisp nilD))) [.pu (.leaf (.ref a)), .pu (wD ps xs named), .pu (iD 4), .pu (iD w), .pu (iD (j : Int)), .pu d5, .un, .un, .pu (.seq true (cs8.map fun c => sD c.1)), .un] = some (!cs8.isEmpty) := asB_ (by
    rw [bin_2 (d := .seq true (cs8.map fun c => sD c.1)) (e := .seq true []) rfl rfl]
    have : (cs8.map fun c => sD c.1) = (cs8.map (·.1)).map sD := by rw [List.map_map]; rfl
    rw [this, ne_nil_strs]
    · cases cs8 <;> rfl
    · intro y hy
      obtain ⟨c, hc, rfl⟩ := List.mem_map.mp hy
      exact (h.ok c (mem8 c hc).1).n)
  by_cases w1 : w = 1 ∧ cs8 ≠ []
  · obtain ⟨w1, w1'⟩ := w1
    obtain ⟨c, r8, rfl⟩ := List.exists_cons_of_ne_nil w1'
    obtain ⟨m1, m2, m3⟩ := mem8 c List.mem_cons_self
    obtain ⟨q, q1, q2⟩ := cs_at m1
    refine seq_i (lfS_i (o := .rt (lkD (.same x c.1))) ((ifs_t ?_).trans (ret_f (tup3 rfl (name_at rfl rfl hx) (ix0 rfl)))) ?_)
    · unfold andB
      rw [isI rfl, decide_eq_true w1, Option.bind_some, if_pos rfl, e81]; rfl
    · exact k (.same x c.1) _ ⟨j, q, o, hx, ho, q1, by rw [← m2]; exact q2, m3⟩ (Nat.le_refl 0) (by omega)
  refine seq_i (lfS_i (o := .nx _) ((ifs_f ?_).trans rfl) ?_)
  · unfold andB
    rw [isI rfl]
    by_cases z : w = 1
    · have : cs8 = [] := Classical.byContradiction fun q => w1 ⟨z, q⟩
      rw [decide_eq_true z, Option.bind_some, if_pos rfl, e81, this]; rfl
    · rw [decide_eq_false z]; rfl
  -- numbered
  by_cases w2 : w = 2
  · refine seq_i (if_i (lf_i (d := true) ?_ (iT ?_)))
    · unfold andB
      rw [isI rfl, decide_eq_true w2]; rfl
    · refine ret_i (tup_i (cons_i rfl (consW_i (ap_i (consW_i (call_i (cons_i rfl (cons_i (d := .seq true ([1, 2, 3, 4].map iD)) rfl (nil_i (some_ok (by decide) (by decide) (fun zs hz => ?_) (by omega) fun zs n' hz hne hn' => nil_i ?_))))))))))
      · obtain ⟨is, hs, rfl⟩ := List.sublist_map_iff.mp hz
        exact ne_nil_ints is
      · obtain ⟨is, hs, rfl⟩ := List.sublist_map_iff.mp hz
        have hn4 : n' ≤ n + 1 + 1 + 4 + 1 := hn'
        refine ⟨.seq false (is.map iD), rfl, nil_i ⟨by show 2 ≤ Lim; decide, ?_⟩⟩
        refine k (.numb is) n' ⟨fun z => hne (by rw [z]; rfl), ?_, fun i hi => ?_⟩ (Nat.le_refl 0) (by omega)
        · have := hs.length_le
          have : [(1 : Int), 2, 3, 4].length = 4 := rfl
          omega
        · have := hs.subset hi
          simp at this
          omega
  refine seq_i (if_i (lf_i (d := false) ?_ (iF (lfS_i (o := .nx _) rfl ?_))))
  · unfold andB
    rw [isI rfl, decide_eq_false w2]; rfl
  -- has
  have isn : asBF (bin2 (isN false) (bin2 ixD (bin2 dgD (atP 1) (kD (.leaf (.str "values")))) (atP 4)) (kD (.leaf .non))) [.pu (.leaf (.ref a)), .pu (wD ps xs named), .pu (iD 4), .pu (iD w), .pu (iD (j : Int)), .pu d5, .un, .un, .pu (.seq true (cs8.map fun c => sD c.1)), .un] = some (decide (o = none)) := asB_ (by
    rw [bin_2 (val_at rfl rfl ho) (e := .leaf .non) rfl]
    cases o <;> rfl)
  obtain ⟨ds, hds, d0, d4, dn, dw, dv⟩ : ∃ ds : List Str, ifF (asBF (bin2 (isN false) (bin2 ixD (bin2 dgD (atP 1) (kD (.leaf (.str "values")))) (atP 4)) (kD (.leaf .non)))) (bin2 dgD (atP 1) (kD (.leaf (.str "named")))) (mapS (app1 lstA (consD (bin2 ixD (bin2 dgD (atP 1) (kD (.leaf (.str "values")))) (atP 4)) nilD))) [.pu (.leaf (.ref a)), .pu (wD ps xs named), .pu (iD 4), .pu (iD w), .pu (iD (j : Int)), .pu d5, .un, .un, .pu (.seq true (cs8.map fun c => sD c.1)), .un] = some (.seq true (ds.map sD)) ∧ 0 < ds.length ∧ ds.length ≤ 4 ∧ ds.Nodup ∧ (∀ w ∈ ds, isW w = true) ∧ ∀ w ∈ ds, ∀ vs, o = some vs → w ∈ vs := by
    unfold ifF
    rw [isn]
    cases o with
    | none =>
      refine ⟨named, ?_, by omega, by omega, hnd, hnw, fun w hw vs e => by cases e⟩
      rw [decide_eq_true rfl, Option.bind_some, if_pos rfl, bin_2 (d := wD ps xs named) (e := sD "named") rfl rfl, w_named]
    | some vs =>
      have hv : Vals vs := by
        rcases List.mem_append.mp (List.mem_of_getElem? ho) with q | q
        · obtain ⟨p, hp, e⟩ := List.mem_map.mp q
          cases e
          exact (h.t p hp).v
        · obtain ⟨p, hp, e⟩ := List.mem_map.mp q
          cases e
      refine ⟨vs, ?_, by have := hv.lo; omega, by have := hv.hi; omega, hv.nd, hv.ws, fun w hw vs' e => by cases e; exact hw⟩
      rw [decide_eq_false (fun z => by cases z), Option.bind_some, if_neg (by decide)]
      refine maps_ ?_
      rw [app_1 (val_at rfl rfl ho)]
      rfl
  refine seq_i (lfS_i (o := .nx [.pu (.leaf (.ref a)), .pu (wD ps xs named), .pu (iD 4), .pu (iD w), .pu (iD (j : Int)), .pu d5, .un, .un, .pu (.seq true (cs8.map fun c => sD c.1)), .pu (.seq true (ds.map sD))]) (asg_ hds) ?_)
  refine ret_i (tup_i (cons_i rfl (cons_i (name_at rfl rfl hx) (words_drawn (h := h) (j := j) (x := x) rfl rfl d0 d4 dn dw dv (by omega) fun ws n' hw hn' => ⟨by show 3 ≤ Lim; decide, ?_⟩))))
  exact k (.has x ws) n' ⟨j, o, hx, ho, hw⟩ (Nat.le_refl 0) (by omega)
end
end L2.K1

namespace L2.K1
open PySem PySem.Spec PyProof.Rows L2.Tr
/-! looks that are drawn, by levels -/
def gLkN : Nat → Addr → List D → Nat → (D → Nat → Prop) → Prop
  | 0 => fun _ _ _ _ => False
  | n + 1 => fun a => fLook a (gLkN n)
def bndL : Nat → Nat
  | 0 => 11
  | d + 1 => 2 * bndL d + 3
section
variable {ps : List (Str × List Str)} {xs named : List Str} {a : Addr}
theorem bnd_le (d : Nat) : 11 ≤ bndL d := by
  induction d with
  | zero => exact Nat.le_refl _
  | succ d ih => show 11 ≤ 2 * bndL d + 3; omega
theorem look_ok (h : Cols ps xs) (hn2 : named.length = 2) (hnd : named.Nodup) (hnw : ∀ x ∈ named, isW x = true) : ∀ (m d n : Nat) (R : D → Nat → Prop), d < m → n + bndL d + 300 ≤ 1000000 → DrawnL ps xs d n (bndL d) R → gLkN m a [.leaf (.ref a), wD ps xs named, iD 4, iD (d : Int)] n R
  | 0, d, n, R, h0, _, _ => absurd h0 (Nat.not_lt_zero _)
  | m + 1, d, n, R, hd, hn, k => by
    have hL : Lim = 5000 := rfl
    show fLook a (gLkN m) [.leaf (.ref a), wD ps xs named, iD 4, iD (d : Int)] n R
    refine ⟨rfl, ?_⟩
    show FLook a (gLkN m) [.pu (.leaf (.ref a)), .pu (wD ps xs named), .pu (iD 4), .pu (iD (d : Int)), .un, .un, .un] n _
    have b11 := bnd_le d
    -- what is not made of others
    have simp_ : ∀ (w : Int) (n1 : Nat), 3 ≤ w → n1 ≤ n + 1 → (seqW (ifSW (lf (asBF (bin2 (scD false) (atP 4) (kD (.leaf (.int 0)))))) (retW (tupW (consW (lf (kD (.leaf (.str "not")))) (consW (callW (gLkN m a) (consW (lf (atP 0)) (consW (lf (atP 1)) (consW (lf (atP 2)) (consW (lf (bin2 (intI fun i j => .int (i - j)) (atP 3) (kD (.leaf (.int 1))))) nilW))))) nilW)))) (lfS skipF)) (seqW (ifSW (lf (asBF (bin2 (intI fun i j => .bl (decide (i < j))) (atP 4) (kD (.leaf (.int 3)))))) (seqW (setW 5 (svP (callW (gLkN m a) (consW (lf (atP 0)) (consW (lf (atP 1)) (consW (lf (atP 2)) (consW (lf (bin2 (intI fun i j => .int (i - j)) (atP 3) (kD (.leaf (.int 1))))) nilW))))))) (seqW (setW 6 (svP (callW (fPickW a) (consW (lf (atP 0)) (consW (lf (mapS (lstDisp (consD (kD (.leaf (.str "and"))) (consD (kD (.leaf (.str "or"))) (consD (kD (.leaf (.str "less"))) (consD (kD (.leaf (.str "xor"))) nilD))))))) nilW))))) (retW (tupW (consW (lf (atP 6)) (consW (lf (atP 5)) (consW (callW (gLkN m a) (consW (lf (atP 0)) (consW (lf (atP 1)) (consW (lf (atP 2)) (consW (lf (bin2 (intI fun i j => .int (i - j)) (atP 3) (kD (.leaf (.int 1))))) nilW))))) nilW))))))) (lfS skipF)) (retW (callW (fSLook a) (consW (lf (atP 0)) (consW (lf (atP 1)) (consW (lf (atP 2)) nilW))))))) [.pu (.leaf (.ref a)), .pu (wD ps xs named), .pu (iD 4), .pu (iD (d : Int)), .pu (iD w), .un, .un] n1 (fun o s2 => match o with | .rt d => R d s2 | .nx _ => R (.leaf .non) s2 | _ => False) := fun w n1 hw h1 => by
      refine seq_i (if_i (lf_i (d := false) (asB_ ?_) (iF (lfS_i (o := .nx _) rfl ?_))))
      · rw [bin_2 (d := iD w) (e := iD 0) rfl rfl]
        show some (bD (xor false (decide (V.int w = V.int 0)))) = _
        rw [decide_eq_false fun z => by have := V.int.inj z; omega]; rfl
      refine seq_i (if_i (lf_i (d := false) (asB_ ?_) (iF (lfS_i (o := .nx _) rfl ?_))))
      · rw [bin_2 (d := iD w) (e := iD 3) rfl rfl]
        show some (bD (decide (w < 3))) = _
        rw [decide_eq_false (by omega)]
      refine ret_i (call_i (cons_i rfl (cons_i rfl (cons_i rfl (nil_i (simple_ok h hn2 hnd hnw (by omega) fun l n' h1' h2' h3' => ?_))))))
      exact k l n' h1' (by omega) (by omega)
    cases d with
    | zero => 
      refine seq_i (set_p (lf_i (d := false) rfl (iF (lf_i (d := iD 5) rfl ?_))))
      exact simp_ 5 n (by decide) (by omega)
    | succ d =>
      have hb : bndL (d + 1) = 2 * bndL d + 3 := rfl
      have hb0 := bnd_le d
      have dm : d < m := by omega
      have sub1 : ∀ {ρ : L2.Tr.Env}, atP 3 ρ = some (iD ((d + 1 : Nat) : Int)) → bin2 (intI fun i j => .int (i - j)) (atP 3) (kD (.leaf (.int 1))) ρ = some (iD (d : Int)) := fun {ρ} e => by
        rw [bin_2 e (e := iD 1) rfl]
        show some (iD (((d + 1 : Nat) : Int) - 1)) = _
        rw [show ((d + 1 : Nat) : Int) - 1 = (d : Int) by omega]
      refine seq_i (set_p (lf_i (d := true) (asB_ ?_) (iT (call_i (cons_i rfl (cons_i rfl (nil_i ⟨6, rfl, by decide, by decide, by omega, fun w w0 w6 => ?_⟩)))))))
      · rw [bin_2 (d := iD ((d + 1 : Nat) : Int)) (e := iD 0) rfl rfl]
        show some (bD (decide (0 < ((d + 1 : Nat) : Int)))) = _
        rw [decide_eq_true (by omega)]
      show (seqW _ _) [.pu (.leaf (.ref a)), .pu (wD ps xs named), .pu (iD 4), .pu (iD ((d + 1 : Nat) : Int)), .pu (iD w), .un, .un] (n + 1) _
      by_cases h3 : 3 ≤ w
      · exact simp_ w (n + 1) h3 (by omega)
      by_cases hw : w = 0
      · refine seq_i (if_i (lf_i (d := true) (asB_ ?_) (iT ?_)))
        · rw [bin_2 (d := iD w) (e := iD 0) rfl rfl, hw]; rfl
        · refine ret_i (tup_i (cons_i rfl (consW_i (call_i (cons_i rfl (cons_i rfl (cons_i rfl (cons_i (sub1 rfl) (nil_i (look_ok h hn2 hnd hnw m d (n + 1) _ dm (by omega) fun l n' l1 l2 l3 => nil_i ⟨by show 2 ≤ Lim; decide, ?_⟩))))))))))
          exact k (.not l) n' l1 (by show dep l + 1 ≤ d + 1; omega) (by omega)
      refine seq_i (if_i (lf_i (d := false) (asB_ ?_) (iF (lfS_i (o := .nx _) rfl ?_))))
      · rw [bin_2 (d := iD w) (e := iD 0) rfl rfl]
        show some (bD (xor false (decide (V.int w = V.int 0)))) = _
        rw [decide_eq_false fun z => hw (V.int.inj z)]; rfl
      refine seq_i (if_i (lf_i (d := true) (asB_ ?_) (iT ?_)))
      · rw [bin_2 (d := iD w) (e := iD 3) rfl rfl]
        show some (bD (decide (w < 3))) = _
        rw [decide_eq_true (by omega)]
      refine seq_i (set_p (call_i (cons_i rfl (cons_i rfl (cons_i rfl (cons_i (sub1 rfl) (nil_i (look_ok h hn2 hnd hnw m d (n + 1) _ dm (by omega) fun l n' l1 l2 l3 => ?_))))))))
      refine seq_i (set_p (call_i (cons_i rfl (cons_i (d := .seq true [sD "and", sD "or", sD "less", sD "xor"]) rfl (nil_i (pick_ok (by decide) (by decide) (by omega) fun kd hkd => ?_))))))
      obtain ⟨o, rfl⟩ : ∃ o, kd = sD (opN o) := by
        simp only [List.mem_cons, List.not_mem_nil, or_false] at hkd
        rcases hkd with rfl | rfl | rfl | rfl
        · exact ⟨.and, rfl⟩
        · exact ⟨.or, rfl⟩
        · exact ⟨.less, rfl⟩
        · exact ⟨.xor, rfl⟩
      refine ret_i (tup_i (cons_i rfl (cons_i rfl (consW_i (call_i (cons_i rfl (cons_i rfl (cons_i rfl (cons_i (sub1 rfl) (nil_i (look_ok h hn2 hnd hnw m d (n' + 1) _ dm (by omega) fun l2' n2 q1 q2 q3 => nil_i ⟨by show 3 ≤ Lim; decide, ?_⟩)))))))))))
      exact k (.bin o l l2') n2 ⟨l1, q1⟩ (by show max (dep l) (dep l2') + 1 ≤ d + 1; omega) (by omega)
end
end L2.K1

namespace L2.K1
open PySem PySem.Spec PyProof.Rows L2.Tr
theorem cand_w : ∀ x ∈ candL, isW x = true ∧ x ≠ "number" := by decide +kernel
theorem cand_nd : candL.Nodup := by decide +kernel
theorem cand_len : candL.length = 22 := by decide +kernel
theorem flat_len : ∀ {ps : List (Str × List Str)}, (∀ p ∈ ps, p.2.length ≤ 3) → (ps.flatMap (·.2)).length ≤ 3 * ps.length
  | [], _ => Nat.zero_le _
  | p :: ps, h => by
    have := h p List.mem_cons_self
    have := flat_len fun q hq => h q (List.mem_cons_of_mem _ hq)
    rw [List.flatMap_cons, List.length_append, List.length_cons]
    omega
theorem spare_good {ps : List (Str × List Str)} {xs named : List Str} (h : Cols ps xs) (hn : named.length ≤ 2) :
    ∃ s0 st, spareL ps xs named = s0 :: st ∧ s0 ≠ "number" ∧ (∀ p ∈ ps, s0 ∉ p.2) ∧ ∀ x ∈ s0 :: st, isW x = true ∧ x ∉ keysOf ps xs ∧ ∀ (i : Nat) (ys : List Str), (osOf ps xs)[i]? = some (some ys) → x ∉ ys := by
  have l3 := h.l3
  have fl := flat_len fun p hp => (h.t p hp).v.hi
  have mem : ∀ x ∈ spareL ps xs named, x ∈ candL ∧ x ∉ knownL ps xs named := fun x hx => by
    unfold spareL at hx
    obtain ⟨h1, h2⟩ := List.mem_filter.mp hx
    exact ⟨h1, fun z => by rw [decide_eq_true z] at h2; cases h2⟩
  have pos : ∃ s0 st, spareL ps xs named = s0 :: st := by
    cases e : spareL ps xs named with
    | cons s0 st => exact ⟨s0, st, rfl⟩
    | nil =>
      exfalso
      have all : ∀ x ∈ candL, x ∈ knownL ps xs named := fun x hx => by
        by_cases z : x ∈ knownL ps xs named
        · exact z
        · have : x ∈ spareL ps xs named := by
            unfold spareL
            exact List.mem_filter.mpr ⟨hx, by rw [decide_eq_false z]; rfl⟩
          rw [e] at this; cases this
      have := sub_len cand_nd all
      rw [cand_len] at this
      unfold knownL at this
      rw [List.length_append, List.length_append, keys_len] at this
      omega
  obtain ⟨s0, st, e⟩ := pos
  have m0 := mem s0 (by rw [e]; exact List.mem_cons_self)
  have far : ∀ x, x ∉ knownL ps xs named → (x ∉ keysOf ps xs) ∧ ∀ p ∈ ps, x ∉ p.2 := fun x hx => by
    unfold knownL at hx
    exact ⟨fun z => hx (List.mem_append_left _ (List.mem_append_left _ z)), fun p hp z => hx (List.mem_append_right _ (List.mem_flatMap.mpr ⟨p, hp, z⟩))⟩
  refine ⟨s0, st, e, (cand_w s0 m0.1).2, (far s0 m0.2).2, fun x hx => ?_⟩
  have m := mem x (by rw [e]; exact hx)
  refine ⟨(cand_w x m.1).1, (far x m.2).1, fun i ys hi => ?_⟩
  have ho := List.mem_of_getElem? hi
  rcases List.mem_append.mp ho with q | q
  · obtain ⟨p, hp, e2⟩ := List.mem_map.mp q
    cases e2
    exact (far x m.2).2 p hp
  · obtain ⟨p, hp, e2⟩ := List.mem_map.mp q
    cases e2
/-! the law's same, of truths -/
def smN : Nat → List D → Option D
  | 0 => fun _ => none
  | n + 1 => fSame (smN n)
theorem same_bl (g : List D → Option D) (b : Bool) : fSame g [bD b, bD b] = some (bD true) := by cases b <;> rfl
theorem same_bls {g : List D → Option D} (hg : ∀ b : Bool, g [bD b, bD b] = some (bD true)) (b : Bool) : fSame g [.seq true [bD b, bD b], .seq true [bD b, bD b]] = some (bD true) := by
  show runF nSame.length (FSame g) [.seq true [bD b, bD b], .seq true [bD b, bD b]] = _
  refine run_rt ?_
  show seqF _ _ [.pu (.seq true [bD b, bD b]), .pu (.seq true [bD b, bD b]), .un, .un] = _
  refine seq_if_t rfl ?_
  refine (seq_if_f rfl).trans (ret_f ?_)
  rw [and_t rfl]
  have c1 : lcF [2, 3] (zipF (atP 0) (atP 1)) (tupT 2 (consT (setF 2) (consT (setF 3) nilT))) yesF (app1 g (consD (atP 2) (consD (atP 3) nilD))) [.pu (.seq true [bD b, bD b]), .pu (.seq true [bD b, bD b]), .un, .un] = some ([(), ()].map fun _ => bD true) := by
    rw [lc_ (ds := [(), ()].map fun _ => D.seq false [bD b, bD b]) rfl (by show 2 ≤ Lim; decide)]
    refine (comp_fm (ρ := [.pu (.seq true [bD b, bD b]), .pu (.seq true [bD b, bD b]), .un, .un]) (fun _ : Unit => D.seq false [bD b, bD b]) (fun _ => true) (fun _ => bD true) fun c hc => ?_).trans rfl
    refine ⟨[.pu (.seq true [bD b, bD b]), .pu (.seq true [bD b, bD b]), .pu (bD b), .pu (bD b)], rfl, rfl, fun _ => ?_⟩
    rw [app_2 (d := bD b) (e := bD b) rfl rfl, hg b]
  rw [app_1 (maps_ c1), all_map (fun _ => true)]
  rfl
/-! one row and number; all numbers; all rows -/
section
variable {C C3 : Addr} {ps : List (Str × List Str)} {xs named : List Str} {l : Lk}
def NB (C3 : Addr) : L2.Tr.Env → Option Out := (seqF (asgF (app1 (fHo 4) (consD (atP 4) (consD (atP 7) (consD (atP 9) (consD (atP 10) nilD))))) (setF 11)) (ifS (notB (truF (app1 (smN 4) (consD (mapS (lstDisp (consD (callOD C3 (fLCall C3) (atP 8) (consD (atP 9) (consD (atP 10) nilD))) (consD (callOD C3 (fLCall C3) (atP 8) (consD (mapS (app1 lstA (consD (atP 9) nilD))) (consD (atP 10) nilD))) nilD)))) (consD (mapS (lstDisp (consD (atP 11) (consD (atP 11) nilD)))) nilD))))) (retF (kD (.leaf (.bl false)))) skipF))
def nbL : List Int := [1, 2, 3, 4, 5, 6, 10 ^ 30]
abbrev lwE (C C3 : Addr) (ps : List (Str × List Str)) (xs named : List Str) (l : Lk) (s0 s1 s2 s3 s6 s9 s10 s11 : Sl) : L2.Tr.Env := [s0, s1, s2, s3, .pu (wD ps xs named), .pu (colV C ps xs), s6, .pu (lkD l), .pu (lookV C3 (colV C ps xs) (keysOf ps xs) l), s9, s10, s11]
theorem nb_ok {s0 s1 s2 s3 s6 s11 : Sl} (h3 : (keysOf ps xs).length ≤ 3) (hk : Named (keysOf ps xs) l) (hd : dep l ≤ 2) {row : List Str} (hr : row.length = (keysOf ps xs).length) (n : Int) :
    NB C3 (lwE C C3 ps xs named l s0 s1 s2 s3 s6 (.pu (.seq false (row.map sD))) (.pu (iD n)) s11) = some (.nx (lwE C C3 ps xs named l s0 s1 s2 s3 s6 (.pu (.seq false (row.map sD))) (.pu (iD n)) (.pu (bD (sem (keysOf ps xs) row n l))))) := by
  have hs : (stepsOf (keysOf ps xs) l).length ≤ 4000 := Nat.le_trans (Nat.le_trans (steps_le l) (size_le hd)) (by decide)
  unfold NB
  refine (seq_nx (asg_ (d := bD (sem (keysOf ps xs) row n l)) ?_)).trans ?_
  · show (consD _ _ _).bind _ = _
    rw [cons_ (d := wD ps xs named) rfl (cons_ (d := lkD l) rfl (cons_ (d := .seq false (row.map sD)) rfl (cons_ (d := iD n) rfl rfl))), Option.bind_some]
    exact holds_ok hr 4 l hk (by omega)
  generalize hb : sem (keysOf ps xs) row n l = b
  have cl : ∀ q, callOD C3 (fLCall C3) (atP 8) (consD q (consD (atP 10) nilD)) (lwE C C3 ps xs named l s0 s1 s2 s3 s6 (.pu (.seq false (row.map sD))) (.pu (iD n)) (.pu (bD b))) = (q (lwE C C3 ps xs named l s0 s1 s2 s3 s6 (.pu (.seq false (row.map sD))) (.pu (iD n)) (.pu (bD b)))).bind fun r => fLCall C3 [lookV C3 (colV C ps xs) (keysOf ps xs) l, r, iD n] := fun q => by
    unfold callOD
    show (some (lookV C3 (colV C ps xs) (keysOf ps xs) l)).bind _ = _
    rw [Option.bind_some]
    show ((consD q (consD (atP 10) nilD)) _).bind _ = _
    cases hq : q (lwE C C3 ps xs named l s0 s1 s2 s3 s6 (.pu (.seq false (row.map sD))) (.pu (iD n)) (.pu (bD b))) with
    | none => unfold consD; rw [hq]; rfl
    | some r =>
      rw [cons_ hq (cons_ (d := iD n) rfl rfl), Option.bind_some]
      show ite (C3 = C3) _ _ = _
      rw [if_pos rfl]; rfl
  refine (ifs_f (notB_ (b := true) (truB ?_))).trans rfl
  show app1 (smN 4) _ (lwE C C3 ps xs named l s0 s1 s2 s3 s6 (.pu (.seq false (row.map sD))) (.pu (iD n)) (.pu (bD b))) = _
  have l1 : (mapS (lstDisp (consD (callOD C3 (fLCall C3) (atP 8) (consD (atP 9) (consD (atP 10) nilD))) (consD (callOD C3 (fLCall C3) (atP 8) (consD (mapS (app1 lstA (consD (atP 9) nilD))) (consD (atP 10) nilD))) nilD)))) (lwE C C3 ps xs named l s0 s1 s2 s3 s6 (.pu (.seq false (row.map sD))) (.pu (iD n)) (.pu (bD b))) = some (.seq true [bD b, bD b]) := by
    refine maps_ (lst_ (cons_ ?_ (cons_ ?_ rfl)) (by show 2 ≤ Lim; decide))
    · rw [cl]
      show (some (D.seq false (row.map sD))).bind _ = _
      rw [Option.bind_some, call_ok hr hk hs h3, hb]
    · rw [cl]
      show (some (D.seq true (row.map sD))).bind _ = _
      rw [Option.bind_some, call_ok hr hk hs h3, hb]
  rw [app_2 l1 (e := .seq true [bD b, bD b]) rfl]
  exact same_bls (fun b => same_bl (smN 2) b) b
theorem nb_loop {s0 s1 s2 s3 s6 : Sl} (h3 : (keysOf ps xs).length ≤ 3) (hk : Named (keysOf ps xs) l) (hd : dep l ≤ 2) {row : List Str} (hr : row.length = (keysOf ps xs).length) : ∀ (ns : List Int) (s10 s11 : Sl), ∃ t10 t11,
    loopF (setF 10) (NB C3) (ns.map iD) (lwE C C3 ps xs named l s0 s1 s2 s3 s6 (.pu (.seq false (row.map sD))) s10 s11) = some (.nx (lwE C C3 ps xs named l s0 s1 s2 s3 s6 (.pu (.seq false (row.map sD))) t10 t11))
  | [], s10, s11 => ⟨s10, s11, rfl⟩
  | n :: ns, s10, s11 => by
    obtain ⟨t10, t11, e⟩ := nb_loop (s0 := s0) (s1 := s1) (s2 := s2) (s3 := s3) (s6 := s6) h3 hk hd hr ns (.pu (iD n)) (.pu (bD (sem (keysOf ps xs) row n l)))
    exact ⟨t10, t11, loop_c (ρ1 := lwE C C3 ps xs named l s0 s1 s2 s3 s6 (.pu (.seq false (row.map sD))) (.pu (iD n)) s11) rfl (nb_ok h3 hk hd hr n) e⟩
def RB (C3 : Addr) : L2.Tr.Env → Option Out := (forF (seqsF (mapS (lstDisp (consD (kD (.leaf (.int 1))) (consD (kD (.leaf (.int 2))) (consD (kD (.leaf (.int 3))) (consD (kD (.leaf (.int 4))) (consD (kD (.leaf (.int 5))) (consD (kD (.leaf (.int 6))) (consD (bin2 powD (kD (.leaf (.int 10))) (kD (.leaf (.int 30)))) nilD)))))))))) (setF 10) (NB C3))
theorem rb_loop {s0 s1 s2 s3 s6 : Sl} (h3 : (keysOf ps xs).length ≤ 3) (hk : Named (keysOf ps xs) l) (hd : dep l ≤ 2) : ∀ (rs : List (List Str)) (s9 s10 s11 : Sl), (∀ r ∈ rs, r.length = (keysOf ps xs).length) → ∃ t9 t10 t11,
    loopF (setF 9) (RB C3) (rowsD rs) (lwE C C3 ps xs named l s0 s1 s2 s3 s6 s9 s10 s11) = some (.nx (lwE C C3 ps xs named l s0 s1 s2 s3 s6 t9 t10 t11))
  | [], s9, s10, s11, _ => ⟨s9, s10, s11, rfl⟩
  | r :: rs, s9, s10, s11, hr => by
    obtain ⟨u10, u11, e1⟩ := nb_loop (C := C) (C3 := C3) (named := named) (s0 := s0) (s1 := s1) (s2 := s2) (s3 := s3) (s6 := s6) h3 hk hd (hr r List.mem_cons_self) nbL s10 s11
    obtain ⟨t9, t10, t11, e⟩ := rb_loop (s0 := s0) (s1 := s1) (s2 := s2) (s3 := s3) (s6 := s6) h3 hk hd rs (.pu (.seq false (r.map sD))) u10 u11 fun x hx => hr x (List.mem_cons_of_mem _ hx)
    exact ⟨t9, t10, t11, loop_c (ρ1 := lwE C C3 ps xs named l s0 s1 s2 s3 s6 (.pu (.seq false (r.map sD))) s10 s11) rfl (for_c (ds := nbL.map iD) rfl e1) e⟩
end
/-! a look; four looks; a turn -/
section
variable {C C3 : Addr} {a : Addr}
def LB (C C3 : Addr) : L2.Tr.Env → Option Out := (seqF (asgF (app1 (fOf C C3 3) (consD (atP 5) (consD (atP 7) nilD))) (setF 8)) (seqF (ifS (asBF (bin2 (eqOD true C (fEq C)) (fldF C3 "columns" (atP 8)) (atP 5))) (retF (kD (.leaf (.bl false)))) skipF) (forF (seqsF (app1 fLetters (consD (atP 4) nilD))) (setF 9) (RB C3))))
def KB (a C C3 : Addr) : WF Nat Ou := (seqW (setW 7 (svP (callW (gLkN 3 a) (consW (lf (atP 1)) (consW (lf (atP 4)) (consW (lf (kD (.leaf (.int 4)))) (consW (lf (kD (.leaf (.int 2)))) nilW))))))) (lfS (LB C C3)))
def TBd (a C C3 : Addr) : WF Nat Ou := (seqW (setW 4 (svP (callW (fWorld a) (consW (lf (atP 1)) (consW (lf (atP 2)) nilW))))) (seqW (lfS (asgF (app1 (fColsOf C (fInit C)) (consD (atP 4) nilD)) (setF 5))) (forW (lf (rngF (kD (.leaf (.int 4))))) (setF 6) (KB a C C3))))
theorem fl_eq : FLaw a C C3 (gLkN 3) (fColsOf C (fInit C)) (fEq C) (fOf C C3 3) (fHo 4) (smN 4) (fLCall C3) = (seqW (lfS (asgF (mapS (lstDisp (consD (tupDisp (consD (mapS (lstDisp (consD (kD (.leaf (.int 2))) (consD (kD (.leaf (.int 3))) nilD)))) (consD (kD (.leaf (.int 0))) nilD))) (consD (tupDisp (consD (mapS (lstDisp (consD (kD (.leaf (.int 2))) (consD (kD (.leaf (.int 2))) nilD)))) (consD (kD (.leaf (.int 0))) nilD))) (consD (tupDisp (consD (mapS (lstDisp (consD (kD (.leaf (.int 2))) nilD))) (consD (kD (.leaf (.int 1))) nilD))) (consD (tupDisp (consD (mapS (lstDisp nilD)) (consD (kD (.leaf (.int 2))) nilD))) (consD (tupDisp (consD (mapS (lstDisp (consD (kD (.leaf (.int 2))) nilD))) (consD (kD (.leaf (.int 2))) nilD))) (consD (tupDisp (consD (mapS (lstDisp (consD (kD (.leaf (.int 3))) nilD))) (consD (kD (.leaf (.int 0))) nilD))) nilD)))))))) (setF 2))) (seqW (forW (lf (rngF (kD (.leaf (.int 5))))) (setF 3) (TBd a C C3)) (lfS (retF (kD (.leaf (.bl true))))))) := rfl
theorem lb_ok {ps : List (Str × List Str)} {xs named : List Str} (h : Cols ps xs) (hn2 : named.length = 2) (hnw : ∀ x ∈ named, isW x = true) {l : Lk} (hk : LkOk ps xs l) (hd : dep l ≤ 2) {s0 s1 s2 s3 s6 s8 s9 s10 s11 : Sl} :
    ∃ t8 t9 t10 t11, LB C C3 [s0, s1, s2, s3, .pu (wD ps xs named), .pu (colV C ps xs), s6, .pu (lkD l), s8, s9, s10, s11] = some (.nx [s0, s1, s2, s3, .pu (wD ps xs named), .pu (colV C ps xs), s6, .pu (lkD l), t8, t9, t10, t11]) := by
  have h3 : (keysOf ps xs).length ≤ 3 := by rw [keys_len]; exact h.l3
  obtain ⟨z0, st, e, _, _, hz⟩ := spare_good h (named := named) (by omega)
  have fit : ∀ r ∈ rowsOf named (z0 :: st) (osOf ps xs) [[]], r.length = (keysOf ps xs).length := fun r hr => by
    obtain ⟨r0, hr0, t, rfl, pt⟩ := rows_fit hnw (fun x hx => (hz x hx).1) (os := osOf ps xs) (fun o ho ys e => os_words h ho ys e) r hr
    rw [List.mem_singleton.mp hr0, List.nil_append, ← pt.length, os_len, keys_len]
  obtain ⟨t9, t10, t11, e1⟩ := rb_loop (C := C) (C3 := C3) (named := named) (s0 := s0) (s1 := s1) (s2 := s2) (s3 := s3) (s6 := s6) h3 hk.named hd (rowsOf named (z0 :: st) (osOf ps xs) [[]]) s9 s10 s11 fit
  refine ⟨.pu (lookV C3 (colV C ps xs) (keysOf ps xs) l), t9, t10, t11, ?_⟩
  unfold LB
  refine (seq_nx (asg_ (d := lookV C3 (colV C ps xs) (keysOf ps xs) l) ?_)).trans ?_
  · rw [app_2 (d := colV C ps xs) (e := lkD l) rfl rfl]
    exact of_ok h 3 l hk (by omega) (by omega)
  refine (seq_if_f (asB_ ?_)).trans ?_
  · rw [bin_2 (fldC' rfl) (e := colV C ps xs) rfl, eqO_ok h]; rfl
  refine for_c (seqs_ (b := true) ?_) e1
  show app1 fLetters (consD (atP 4) nilD) (lwE C C3 ps xs named l s0 s1 s2 s3 s6 s9 s10 s11) = _
  rw [app_1 (d := wD ps xs named) rfl, letters_ok h (by omega) e]
theorem kb_loop {ps : List (Str × List Str)} {xs named : List Str} (h : Cols ps xs) (hn2 : named.length = 2) (hnd : named.Nodup) (hnw : ∀ x ∈ named, isW x = true) {s0 s2 s3 : Sl} {R : Ou → Nat → Prop} : ∀ (ds : List D) (n : Nat) (s6 s7 s8 s9 s10 s11 : Sl), n + 100 * ds.length + 1000 ≤ 1000000 →
    (∀ t6 t7 t8 t9 t10 t11 n', n' ≤ n + 100 * ds.length → R (.nx [s0, .pu (.leaf (.ref a)), s2, s3, .pu (wD ps xs named), .pu (colV C ps xs), t6, t7, t8, t9, t10, t11]) n') →
    loopW (setF 6) (KB a C C3) ds [s0, .pu (.leaf (.ref a)), s2, s3, .pu (wD ps xs named), .pu (colV C ps xs), s6, s7, s8, s9, s10, s11] n R
  | [], n, s6, s7, s8, s9, s10, s11, hn, k => k _ _ _ _ _ _ _ (by omega)
  | d :: ds, n, s6, s7, s8, s9, s10, s11, hn, k => by
    rw [List.length_cons] at hn k
    have hb : bndL 2 = 53 := rfl
    refine ⟨_, rfl, seq_i (set_p (call_i (cons_i rfl (cons_i rfl (cons_i rfl (cons_i rfl (nil_i (look_ok h hn2 hnd hnw 3 2 n _ (by decide) (by omega) fun l n' h1 h2 h3 => ?_))))))))⟩
    obtain ⟨t8, t9, t10, t11, e⟩ := lb_ok (C := C) (C3 := C3) h hn2 hnw h1 h2 (s0 := s0) (s1 := .pu (.leaf (.ref a))) (s2 := s2) (s3 := s3) (s6 := .pu d) (s8 := s8) (s9 := s9) (s10 := s10) (s11 := s11)
    exact lfS_i e (kb_loop h hn2 hnd hnw ds n' _ _ _ _ _ _ (by omega) fun t6 t7 t8 t9 t10 t11 n2 h4 => k _ _ _ _ _ _ _ (by omega))
theorem tb_loop {s0 : Sl} {R : Ou → Nat → Prop} : ∀ (ds : List D) (n : Nat) (s3 s4 s5 s6 s7 s8 s9 s10 s11 : Sl), n + 1000 * ds.length + 3000 ≤ 1000000 →
    (∀ t3 t4 t5 t6 t7 t8 t9 t10 t11 n', R (.nx [s0, .pu (.leaf (.ref a)), .pu shD, t3, t4, t5, t6, t7, t8, t9, t10, t11]) n') →
    loopW (setF 3) (TBd a C C3) ds [s0, .pu (.leaf (.ref a)), .pu shD, s3, s4, s5, s6, s7, s8, s9, s10, s11] n R
  | [], n, s3, s4, s5, s6, s7, s8, s9, s10, s11, hn, k => k _ _ _ _ _ _ _ _ _ _
  | d :: ds, n, s3, s4, s5, s6, s7, s8, s9, s10, s11, hn, k => by
    rw [List.length_cons] at hn
    refine ⟨_, rfl, seq_i (set_p (call_i (cons_i rfl (cons_i rfl (nil_i (world_ok (by omega) fun ps xs named n1 hc hn2 hnd hnw h1 => ?_))))))⟩
    refine seq_i (lfS_i (o := .nx [s0, .pu (.leaf (.ref a)), .pu shD, .pu d, .pu (wD ps xs named), .pu (colV C ps xs), s6, s7, s8, s9, s10, s11]) (asg_ ?_) ?_)
    · rw [app_1 (d := wD ps xs named) rfl, colsOf_ok hc]
    refine for_i (lf_i (d := rangeL 4) rfl (kb_loop hc hn2 hnd hnw _ n1 _ _ _ _ _ _ (by show n1 + 400 + 1000 ≤ _; omega) fun t6 t7 t8 t9 t10 t11 n2 h2 => ?_))
    have h2' : n2 ≤ n1 + 400 := h2
    exact tb_loop ds n2 _ _ _ _ _ _ _ _ _ (by omega) k
theorem law_ok {R : Ou → Nat → Prop} {n : Nat} (hn : n + 10000 ≤ 1000000) (k : ∀ s, R (.rt (bD true)) s) : FLaw a C C3 (gLkN 3) (fColsOf C (fInit C)) (fEq C) (fOf C C3 3) (fHo 4) (smN 4) (fLCall C3) [.un, .pu (.leaf (.ref a)), .un, .un, .un, .un, .un, .un, .un, .un, .un, .un] n R := by
  rw [fl_eq]
  refine seq_i (lfS_i (o := .nx [.un, .pu (.leaf (.ref a)), .pu shD, .un, .un, .un, .un, .un, .un, .un, .un, .un]) rfl ?_)
  exact seq_i (for_i (lf_i (d := rangeL 5) rfl (tb_loop _ n _ _ _ _ _ _ _ _ _ (by show n + 5000 + 3000 ≤ _; omega) fun t3 t4 t5 t6 t7 t8 t9 t10 t11 n' => lfS_i (o := .rt (bD true)) rfl (k _))))
end
end L2.K1

namespace L2.K1
open PySem PySem.Spec PyProof.Rows L2.Tr
section
variable {P : Program} {w : World} {K : PySem.W.Frag} {mg : Str → Option Value} {base : Heap}
/-- a promise of nothing -/
theorem fn_none {f : Addr} {fd : FuncData} {ps : List Str} {k : Nat} : FnOk P w K mg base CX0 k f fd ps (spP fun _ => none) := by
  refine ⟨fun vs H Q E h => ?_, fun A outer s H args us vs Q E _ _ _ _ h => ?_⟩
  · obtain ⟨G, ds, d, _, _, e, _⟩ := h
    cases e
  · obtain ⟨G, ds, d, _, _, e, _⟩ := h
    cases e
theorem fn_noneW {f : Addr} {fd : FuncData} {ps : List Str} {k : Nat} : FnOk P w K mg base CX0 k f fd ps (spS fun _ _ _ _ => False) := by
  refine ⟨fun vs H Q E h => ?_, fun A outer s H args us vs Q E _ _ _ _ h => ?_⟩
  · obtain ⟨j, n, G, ds, R, _, _, _, _, e, _⟩ := h
    exact e.elim
  · obtain ⟨j, n, G, ds, R, _, _, _, _, e, _⟩ := h
    exact e.elim
theorem fn_same {f : Addr} {fd : FuncData} (F : Fun K "_law_same" "_law_same" sSame f fd) (B : TxB2 mg) (hm : mg "_law_same" = some (.ref f)) (hk : PySem.W.keepIn K (.ref f) = true) (hb : Binds K fd ["_law_found", "_law_due"] []) : ∀ n : Nat, Fn P w K mg base "_law_same" n 2 (smN n)
  | 0 => ⟨f, fd, ["_law_found", "_law_due"], fn_none, hm, hk, hb⟩
  | n + 1 => ⟨f, fd, ["_law_found", "_law_due"], okSame (smN n) F B (fn_same F B hm hk hb n), hm, hk, hb⟩
theorem fn_holds {f : Addr} {fd : FuncData} (F : Fun K "_law_holds" "_law_holds" sHolds f fd) (B : TxB2 mg) (hm : mg "_law_holds" = some (.ref f)) (hk : PySem.W.keepIn K (.ref f) = true) (hb : Binds K fd ["_law_w", "_law_look_here", "_law_row", "_law_number"] []) : ∀ n : Nat, Fn P w K mg base "_law_holds" n 4 (fHo n)
  | 0 => ⟨f, fd, _, fn_none, hm, hk, hb⟩
  | n + 1 => ⟨f, fd, _, okHolds (fHo n) F B (fn_holds F B hm hk hb n), hm, hk, hb⟩
theorem fn_of {C C3 : Addr} {f : Addr} {fd : FuncData} (F : Fun K "_law_look_of" "_law_look_of" sLookOf f fd) (B : TxB2 mg) (hm : mg "_law_look_of" = some (.ref f)) (hk : PySem.W.keepIn K (.ref f) = true) (hb : Binds K fd ["_law_columns_here", "_law_look_here"] [])
    (hHas : Fn P w K mg base "has" 4 3 (fHas C C3)) (hSame : Fn P w K mg base "same" 4 3 (fSame2 C C3)) (hNum : Fn P w K mg base "numbered" 4 2 (fNumb C C3)) (hEv : Fn P w K mg base "every" 4 1 (fEvery C3)) (hAnd : BinO P w K mg base C3 "__and__" 5 (fLAnd C C3 (fEq C))) (hOr : BinO P w K mg base C3 "__or__" 5 (fLOr C C3 (fEq C))) (hSub : BinO P w K mg base C3 "__sub__" 6 (fLSub C C3 (fEq C))) (hXor : BinO P w K mg base C3 "__xor__" 6 (fLXor C C3 (fEq C))) (hInv : BinO P w K mg base C3 "__invert__" 4 (fLInv C3)) : ∀ n : Nat, Fn P w K mg base "_law_look_of" (n + 6) 2 (fOf C C3 n)
  | 0 => ⟨f, fd, _, fn_none, hm, hk, hb⟩
  | n + 1 => ⟨f, fd, _, okLookOf C3 _ _ _ _ _ _ _ _ _ (fOf C C3 n) F B (k := n + 6) (by omega) hHas hSame hNum hEv hAnd hOr hSub hXor hInv (fn_of F B hm hk hb hHas hSame hNum hEv hAnd hOr hSub hXor hInv n), hm, hk, hb⟩
theorem fn_look {f : Addr} {fd : FuncData} (F : Fun K "_law_look" "_law_look" sLook f fd) (B : TxB2 mg) (hm : mg "_law_look" = some (.ref f)) (hk : PySem.W.keepIn K (.ref f) = true) (hb : Binds K fd ["_law_stream", "_law_w", "_law_far", "_law_deep"] [])
    (hDr : FnE P w K mg base "_law_draw" 1 spDraw) (hPk : FnE P w K mg base "_law_pick" 2 (spS fPickW)) (hSl : FnE P w K mg base "_law_simple_look" 4 (spS fSLook)) : ∀ n : Nat, FnE P w K mg base "_law_look" (n + 4) (spS (gLkN n))
  | 0 => ⟨f, fd, _, fn_noneW, hm, hk, hb⟩
  | n + 1 => ⟨f, fd, _, okLook (gLkN n) F B (k := n + 4) (by omega) hDr hPk hSl (fn_look F B hm hk hb hDr hPk hSl n), hm, hk, hb⟩
end
end L2.K1

namespace L2.K1
open PySem PySem.Spec PyProof.Rows L2.Tr
def spLaw (K : PySem.W.Frag) : Sp := fun vs H Q _ => ∃ (p : Addr) (ns : List Int), vs = [.ref p] ∧ SqL K H p (ns.map V.int) ∧ ∀ H', Q (.bl true) H'
theorem un_env {G H : Hp} {σ : L2.St} (x : Ex G H) {n : Nat} (hl : σ.length = n) : EnvOk G H σ (List.replicate n Sl.un) := by
  have none_ : ∀ (i : Nat) (s : Sl), (List.replicate n Sl.un)[i]? = some s → s = .un := fun i s h => by
    rw [List.getElem?_replicate] at h
    split at h
    · cases h; rfl
    · cases h
  exact ⟨x, by rw [hl, List.length_replicate], fun i d h => (by cases none_ i _ h), fun i d h => (by cases none_ i _ h), fun i j d e p h => (by cases none_ i _ h)⟩
/-- what is promised for each of a family -/
theorem pss_fam {τ ι : Type} {Ωs : ι → Om τ} {W : WX} {X : Cx} {st : List Stmt} {Φ : ι → WF τ Ou} (h : ∀ i, ∃ t, SsW (Ωs i) W X st t (Φ i)) : ∃ T : TS, PSs X st T ∧ ∀ i, StWS (Ωs i) W T (Φ i) :=
  ⟨fun D σ H => ∃ i, (h i).choose D σ H, ⟨fun pins s σ H D I ⟨i, q⟩ => (h i).choose_spec.ps.run pins s σ H D I q⟩, fun i ρ s R hh G H σ x De k => ⟨i, (h i).choose_spec.ev ρ s R hh G H σ x De k⟩⟩
section
variable {P : Program} {w : World} {K : PySem.W.Frag} {mg : Str → Option Value} {base : Heap}
theorem ok_law {f fst : Addr} {fd dst : FuncData} (F : Fun K "law" "law" sLaw f fd) (B : TxB2 mg) {C C3 : Addr}
    (m_st : mg "_law_start" = some (.ref fst)) (k_st : PySem.W.keepIn K (.ref fst) = true) (GS : FnOk P w K mg base CX0 1 fst dst ["_law_script"] (spStart K)) (bS : Binds K dst ["_law_script"] [])
    (hDr : FnE P w K mg base "_law_draw" 1 spDraw) (hWo : FnE P w K mg base "_law_world" 5 (spS fWorld)) (hLk : FnE P w K mg base "_law_look" 7 (spS (gLkN 3)))
    (hCo : Fn P w K mg base "_law_columns" 6 1 (fColsOf C (fInit C))) (hLo : Fn P w K mg base "_law_look_of" 9 2 (fOf C C3 3)) (hLe : Fn P w K mg base "_law_letters" 2 1 fLetters) (hHo : Fn P w K mg base "_law_holds" 4 4 (fHo 4)) (hS : Fn P w K mg base "_law_same" 4 2 (smN 4))
    (clL : Cls K C3) (m1 : NoAttr K C3 "columns") (mE : Eqr P w K mg base C 1 (fEq C)) (mC : ClO P w K mg base C3 4 (fLCall C3)) :
    FnOk P w K mg base CX0 11 f fd ["_law_script"] (spLaw K) := by
  refine F.ok scLaw (fun vs H Q E h => ?_) (fun cdv A outer s H vs Q E hr h => ?_)
  · obtain ⟨p, ns, rfl, _⟩ := h
    rfl
  · obtain ⟨p, ns, rfl, hp, k⟩ := h
    have D : ∀ j : Addr × Addr, ∃ t, SsW (St j.1 j.2) W0 (XL P w K mg base f cdv A outer s H E) ((defBody sLaw).drop 1) t (FLaw j.1 C C3 (gLkN 3) (fColsOf C (fInit C)) (fEq C) (fOf C C3 3) (fHo 4) (smN 4) (fLCall C3)) := fun j =>
      law_d (a := j.1) (b := j.2) B hr hDr hWo hLk hCo hLo hLe hHo hS clL m1 mE mC
    obtain ⟨T, pss, evs⟩ := pss_fam D
    refine ⟨_, (pss_cons (ps_set (i := 1) scLaw.nd rfl (by first | exact Or.inl rfl | exact Or.inr rfl) (pe_call GS (hr.mono (by decide)) rfl m_st k_st bS .nil pass0 (pa_cons (pv 0) pa_nil))) pss), ?_⟩
    refine ⟨_, rfl, p, ns, rfl, hp, fun a b H1 S1 e1 na nb => ?_⟩
    have ev := evs (a, b)
    have x1 : EnvOk (fun _ => none) H1 [some (.ref p), some (.ref a), none, none, none, none, none, none, none, none, none, none] ((List.replicate 12 Sl.un).set 1 (.pu (.leaf (.ref a)))) :=
      (un_env (σ := [some (.ref p), none, none, none, none, none, none, none, none, none, none, none]) (fun c o z => by cases z) rfl).setP (.lf rfl) 1
    refine ev _ 0 (fun o _ => o = .rt (bD true)) (law_ok (by decide) fun _ => rfl) (fun _ => none) H1 _ ⟨x1, S1, fun _ _ => rfl, fun c _ ⟨i, d, h1, _⟩ => ?_⟩ _ fun o s2 h => ?_
    · have := List.mem_of_getElem? h1
      simp at this
    · subst h
      intro v G2 H2 _ r
      obtain ⟨rfl, _⟩ := r.un_lf
      exact k _
end
end L2.K1

namespace L2.K1
open PySem PySem.Spec PyProof.Rows L2.Tr
theorem kit_no {K : PySem.W.Frag} {C : Addr} {s : String} (hd : PySem.W.hasDictIn K C = true) (ty : PySem.W.typeIn K (.ref C) = some (.type "type")) (h : PySem.W.subIn K (.type s) (.ref C) = some false) : PySem.W.kitOne K (.type s) (.ref C) = some false := by
  unfold PySem.W.kitOne
  rw [if_neg (by simp)]
  show (if ((PySem.W.clsIn K C).isSome && PySem.W.typeIn K (.ref C) == some (.type "type")) = true then PySem.W.subIn K (.type s) (.ref C) else none) = _
  have : (PySem.W.clsIn K C).isSome = true := by
    unfold PySem.W.hasDictIn at hd
    cases e : PySem.W.clsIn K C with
    | some _ => rfl
    | none => rw [e] at hd; simp at hd
  rw [this, ty, if_pos (by rfl)]
  exact h
theorem all_mk {l : PySem.W.OpenLaw} {w : World} {K : PySem.W.Frag} {h : Heap} {mg : Str → Option Value} {fa : Addr} (X : K.In h) (G : h.Ns mainGlobals mg) (hfa : mg "law" = some (.ref fa))
    {C : Addr}
    {fI : Addr} {ocI kVI dcI pmI cdI ctI : Value} {odI anI : Option Addr} {slI : Array (Option Value)}
    {TDI TEI : Addr} {nTI : Nat} {oTI : Option Addr} {sTI : Array (Option Value)} {ocTI : Value}
    {fnam : Addr} {ocnam kVnam dcnam pmnam cdnam ctnam : Value} {odnam annam : Option Addr} {slnam : Array (Option Value)}
    {fctv : Addr} {occtv kVctv dcctv pmctv cdctv ctctv : Value} {odctv anctv : Option Addr} {slctv : Array (Option Value)}
    {fcln : Addr} {occln kVcln dccln pmcln cdcln ctcln : Value} {odcln ancln : Option Addr} {slcln : Array (Option Value)}
    {fcin : Addr} {occin kVcin dccin pmcin cdcin ctcin : Value} {odcin ancin : Option Addr} {slcin : Array (Option Value)}
    {fceq : Addr} {occeq kVceq dcceq pmceq cdceq ctceq : Value} {odceq anceq : Option Addr} {slceq : Array (Option Value)}
    {fisNu : Addr} {ocisNu kVisNu dcisNu pmisNu cdisNu ctisNu : Value} {odisNu anisNu : Option Addr} {slisNu : Array (Option Value)}
    {fisW : Addr} {ocisW kVisW dcisW pmisW cdisW ctisW : Value} {odisW anisW : Option Addr} {slisW : Array (Option Value)}
    {fisL : Addr} {ocisL kVisL dcisL pmisL cdisL ctisL : Value} {odisL anisL : Option Addr} {slisL : Array (Option Value)}
    {fisN : Addr} {ocisN kVisN dcisN pmisN cdisN ctisN : Value} {odisN anisN : Option Addr} {slisN : Array (Option Value)}
    {fare : Addr} {ocare kVare dcare pmare cdare ctare : Value} {odare anare : Option Addr} {slare : Array (Option Value)}
    {ftold : Addr} {octold kVtold dctold pmtold cdtold cttold : Value} {odtold antold : Option Addr} {sltold : Array (Option Value)}
    {fcan : Addr} {occan kVcan dccan pmcan cdcan ctcan : Value} {odcan ancan : Option Addr} {slcan : Array (Option Value)}
    {tLE : _}
    {tML : _}
    {tMV : _}
    {tMC : _}
    {tMF : _}
    {C3 : Addr}
    {fJ : Addr} {ocJ kVJ dcJ pmJ cdJ ctJ : Value} {odJ anJ : Option Addr} {slJ : Array (Option Value)}
    {flfo : Addr} {oclfo kVlfo dclfo pmlfo cdlfo ctlfo : Value} {odlfo anlfo : Option Addr} {sllfo : Array (Option Value)}
    {flca : Addr} {oclca kVlca dclca pmlca cdlca ctlca : Value} {odlca anlca : Option Addr} {sllca : Array (Option Value)}
    {flan : Addr} {oclan kVlan dclan pmlan cdlan ctlan : Value} {odlan anlan : Option Addr} {sllan : Array (Option Value)}
    {flor : Addr} {oclor kVlor dclor pmlor cdlor ctlor : Value} {odlor anlor : Option Addr} {sllor : Array (Option Value)}
    {flsu : Addr} {oclsu kVlsu dclsu pmlsu cdlsu ctlsu : Value} {odlsu anlsu : Option Addr} {sllsu : Array (Option Value)}
    {flxo : Addr} {oclxo kVlxo dclxo pmlxo cdlxo ctlxo : Value} {odlxo anlxo : Option Addr} {sllxo : Array (Option Value)}
    {fliv : Addr} {ocliv kVliv dcliv pmliv cdliv ctliv : Value} {odliv anliv : Option Addr} {slliv : Array (Option Value)}
    {fcnt : Addr} {occnt kVcnt dccnt pmcnt cdcnt ctcnt : Value} {odcnt ancnt : Option Addr} {slcnt : Array (Option Value)}
    {ffin : Addr} {ocfin kVfin dcfin pmfin cdfin ctfin : Value} {odfin anfin : Option Addr} {slfin : Array (Option Value)}
    {ffsm : Addr} {ocfsm kVfsm dcfsm pmfsm cdfsm ctfsm : Value} {odfsm anfsm : Option Addr} {slfsm : Array (Option Value)}
    {fjoi : Addr} {ocjoi kVjoi dcjoi pmjoi cdjoi ctjoi : Value} {odjoi anjoi : Option Addr} {sljoi : Array (Option Value)}
    {fava : Addr} {ocava kVava dcava pmava cdava ctava : Value} {odava anava : Option Addr} {slava : Array (Option Value)}
    {fanu : Addr} {ocanu kVanu dcanu pmanu cdanu ctanu : Value} {odanu ananu : Option Addr} {slanu : Array (Option Value)}
    {fhas : Addr} {ochas kVhas dchas pmhas cdhas cthas : Value} {odhas anhas : Option Addr} {slhas : Array (Option Value)}
    {fsm2 : Addr} {ocsm2 kVsm2 dcsm2 pmsm2 cdsm2 ctsm2 : Value} {odsm2 ansm2 : Option Addr} {slsm2 : Array (Option Value)}
    {fnmb : Addr} {ocnmb kVnmb dcnmb pmnmb cdnmb ctnmb : Value} {odnmb annmb : Option Addr} {slnmb : Array (Option Value)}
    {feve : Addr} {oceve kVeve dceve pmeve cdeve cteve : Value} {odeve aneve : Option Addr} {sleve : Array (Option Value)}
    {tGN : _}
    {fpick : Addr} {ocpick kVpick dcpick pmpick cdpick ctpick : Value} {odpick anpick : Option Addr} {slpick : Array (Option Value)}
    {fdraw : Addr} {ocdraw kVdraw dcdraw pmdraw cddraw ctdraw : Value} {oddraw andraw : Option Addr} {sldraw : Array (Option Value)}
    {fstart : Addr} {ocstart kVstart dcstart pmstart cdstart ctstart : Value} {odstart anstart : Option Addr} {slstart : Array (Option Value)}
    {fword : Addr} {ocword kVword dcword pmword cdword ctword : Value} {odword anword : Option Addr} {slword : Array (Option Value)}
    {fwords : Addr} {ocwords kVwords dcwords pmwords cdwords ctwords : Value} {odwords anwords : Option Addr} {slwords : Array (Option Value)}
    {fwo : Addr} {ocwo kVwo dcwo pmwo cdwo ctwo : Value} {odwo anwo : Option Addr} {slwo : Array (Option Value)}
    {fcof : Addr} {occof kVcof dccof pmcof cdcof ctcof : Value} {odcof ancof : Option Addr} {slcof : Array (Option Value)}
    {fle : Addr} {ocle kVle dcle pmle cdle ctle : Value} {odle anle : Option Addr} {slle : Array (Option Value)}
    {fspr : Addr} {ocspr kVspr dcspr pmspr cdspr ctspr : Value} {odspr anspr : Option Addr} {slspr : Array (Option Value)}
    {fsame : Addr} {ocsame kVsame dcsame pmsame cdsame ctsame : Value} {odsame ansame : Option Addr} {slsame : Array (Option Value)}
    {fsom : Addr} {ocsom kVsom dcsom pmsom cdsom ctsom : Value} {odsom ansom : Option Addr} {slsom : Array (Option Value)}
    {fslk : Addr} {ocslk kVslk dcslk pmslk cdslk ctslk : Value} {odslk anslk : Option Addr} {slslk : Array (Option Value)}
    {flok : Addr} {oclok kVlok dclok pmlok cdlok ctlok : Value} {odlok anlok : Option Addr} {sllok : Array (Option Value)}
    {flof : Addr} {oclof kVlof dclof pmlof cdlof ctlof : Value} {odlof anlof : Option Addr} {sllof : Array (Option Value)}
    {fhld : Addr} {ochld kVhld dchld pmhld cdhld cthld : Value} {odhld anhld : Option Addr} {slhld : Array (Option Value)}
    {flaw : Addr} {oclaw kVlaw dclaw pmlaw cdlaw ctlaw : Value} {odlaw anlaw : Option Addr} {sllaw : Array (Option Value)}
    (aC : PySem.W.nsIn K mainGlobals "Columns" = some (some (.ref C)))
    (pgC : PySem.W.plainGet K C Str.empty = true)
    (hdC : PySem.W.hasDictIn K C = true)
    (poC : PySem.W.plainOver K C = true)
    (saC : PySem.W.findIn K (.ref C) "__setattr__" = some (some (.builtin "object.__setattr__")))
    (nC0 : PySem.W.findIn K (.ref C) "_values" = some none)
    (mkC : PySem.W.makesIn K C = true)
    (kkC : PySem.W.keepIn K (.ref C) = true)
    (clC : PySem.W.findIn K (.ref C) "__class__" = some (some (.builtin "object.__class__")))
    (moC : PySem.W.mroIn K C (.type "object") = some true)
    (neC : PySem.W.findIn K (.ref C) "__ne__" = some (some (.builtin "object.__ne__")))
    (tyC : PySem.W.typeIn K (.ref C) = some (.type "type"))
    (ktC0 : PySem.W.subIn K (.type "NoneType") (.ref C) = some false)
    (ktC1 : PySem.W.subIn K (.type "bool") (.ref C) = some false)
    (ktC2 : PySem.W.subIn K (.type "int") (.ref C) = some false)
    (ktC3 : PySem.W.subIn K (.type "str") (.ref C) = some false)
    (ktC4 : PySem.W.subIn K (.type "list") (.ref C) = some false)
    (ktC5 : PySem.W.subIn K (.type "tuple") (.ref C) = some false)
    (ktC6 : PySem.W.subIn K (.type "dict") (.ref C) = some false)
    (gsC : PySem.W.specialIn K (.builtin "object.__class__") "__get__" = some (some (.builtin "getset_descriptor.__get__")))
    (tkC : PySem.W.takesIn K (.builtin "object.__class__") = some true)
    (iI : PySem.W.findIn K (.ref C) "__init__" = some (some (.ref fI)))
    (fnI : PySem.W.isFn K (.ref fI) = true)
    (lI : K.lookup fI = some ⟨ocI, odI, .func (PySem.W.fnOf "__init__" "Columns.__init__" (defArgs sInit) (defBody sInit) (defScope sInit) (.ref TDI) kVI dcI pmI anI cdI ctI), slI⟩)
    (cI : PySem.W.codeIn K cdI "Columns.__init__" = true)
    (kI : PySem.W.keepIn K (.ref fI) = true)
    (lTDI : K.lookup TDI = some ⟨ocTI, oTI, .seq #[.ref TEI] nTI, sTI⟩)
    (inam : PySem.W.findIn K (.ref C) "names" = some (some (.ref fnam)))
    (fnnam : PySem.W.isFn K (.ref fnam) = true)
    (lnam : K.lookup fnam = some ⟨ocnam, odnam, .func (PySem.W.fnOf "names" "Columns.names" (defArgs sNames) (defBody sNames) (defScope sNames) .none kVnam dcnam pmnam annam cdnam ctnam), slnam⟩)
    (cnam : PySem.W.codeIn K cdnam "Columns.names" = true)
    (knam : PySem.W.keepIn K (.ref fnam) = true)
    (ictv : PySem.W.findIn K (.ref C) "told_values" = some (some (.ref fctv)))
    (fnctv : PySem.W.isFn K (.ref fctv) = true)
    (lctv : K.lookup fctv = some ⟨occtv, odctv, .func (PySem.W.fnOf "told_values" "Columns.told_values" (defArgs sTV) (defBody sTV) (defScope sTV) .none kVctv dcctv pmctv anctv cdctv ctctv), slctv⟩)
    (cctv : PySem.W.codeIn K cdctv "Columns.told_values" = true)
    (kctv : PySem.W.keepIn K (.ref fctv) = true)
    (icln : PySem.W.findIn K (.ref C) "__len__" = some (some (.ref fcln)))
    (fncln : PySem.W.isFn K (.ref fcln) = true)
    (lcln : K.lookup fcln = some ⟨occln, odcln, .func (PySem.W.fnOf "__len__" "Columns.__len__" (defArgs sLen) (defBody sLen) (defScope sLen) .none kVcln dccln pmcln ancln cdcln ctcln), slcln⟩)
    (ccln : PySem.W.codeIn K cdcln "Columns.__len__" = true)
    (kcln : PySem.W.keepIn K (.ref fcln) = true)
    (icin : PySem.W.findIn K (.ref C) "__contains__" = some (some (.ref fcin)))
    (fncin : PySem.W.isFn K (.ref fcin) = true)
    (lcin : K.lookup fcin = some ⟨occin, odcin, .func (PySem.W.fnOf "__contains__" "Columns.__contains__" (defArgs sIn) (defBody sIn) (defScope sIn) .none kVcin dccin pmcin ancin cdcin ctcin), slcin⟩)
    (ccin : PySem.W.codeIn K cdcin "Columns.__contains__" = true)
    (kcin : PySem.W.keepIn K (.ref fcin) = true)
    (iceq : PySem.W.findIn K (.ref C) "__eq__" = some (some (.ref fceq)))
    (fnceq : PySem.W.isFn K (.ref fceq) = true)
    (lceq : K.lookup fceq = some ⟨occeq, odceq, .func (PySem.W.fnOf "__eq__" "Columns.__eq__" (defArgs sEq) (defBody sEq) (defScope sEq) .none kVceq dcceq pmceq anceq cdceq ctceq), slceq⟩)
    (cceq : PySem.W.codeIn K cdceq "Columns.__eq__" = true)
    (kceq : PySem.W.keepIn K (.ref fceq) = true)
    (aisNu : PySem.W.nsIn K mainGlobals "is_number" = some (some (.ref fisNu)))
    (lisNu : K.lookup fisNu = some ⟨ocisNu, odisNu, .func (PySem.W.fnOf "is_number" "is_number" (defArgs sIsNu) (defBody sIsNu) (defScope sIsNu) .none kVisNu dcisNu pmisNu anisNu cdisNu ctisNu), slisNu⟩)
    (cisNu : PySem.W.codeIn K cdisNu "is_number" = true)
    (kisNu : PySem.W.keepIn K (.ref fisNu) = true)
    (aisW : PySem.W.nsIn K mainGlobals "is_word" = some (some (.ref fisW)))
    (lisW : K.lookup fisW = some ⟨ocisW, odisW, .func (PySem.W.fnOf "is_word" "is_word" (defArgs sIsW) (defBody sIsW) (defScope sIsW) .none kVisW dcisW pmisW anisW cdisW ctisW), slisW⟩)
    (cisW : PySem.W.codeIn K cdisW "is_word" = true)
    (kisW : PySem.W.keepIn K (.ref fisW) = true)
    (aisL : PySem.W.nsIn K mainGlobals "is_list" = some (some (.ref fisL)))
    (lisL : K.lookup fisL = some ⟨ocisL, odisL, .func (PySem.W.fnOf "is_list" "is_list" (defArgs sIsL) (defBody sIsL) (defScope sIsL) .none kVisL dcisL pmisL anisL cdisL ctisL), slisL⟩)
    (cisL : PySem.W.codeIn K cdisL "is_list" = true)
    (kisL : PySem.W.keepIn K (.ref fisL) = true)
    (aisN : PySem.W.nsIn K mainGlobals "_is_name" = some (some (.ref fisN)))
    (lisN : K.lookup fisN = some ⟨ocisN, odisN, .func (PySem.W.fnOf "_is_name" "_is_name" (defArgs sIsN) (defBody sIsN) (defScope sIsN) .none kVisN dcisN pmisN anisN cdisN ctisN), slisN⟩)
    (cisN : PySem.W.codeIn K cdisN "_is_name" = true)
    (kisN : PySem.W.keepIn K (.ref fisN) = true)
    (aare : PySem.W.nsIn K mainGlobals "are_values_columns" = some (some (.ref fare)))
    (lare : K.lookup fare = some ⟨ocare, odare, .func (PySem.W.fnOf "_are_values" "_are_values" (defArgs sAre) (defBody sAre) (defScope sAre) .none kVare dcare pmare anare cdare ctare), slare⟩)
    (care : PySem.W.codeIn K cdare "_are_values" = true)
    (kare : PySem.W.keepIn K (.ref fare) = true)
    (atold : PySem.W.nsIn K mainGlobals "_is_told" = some (some (.ref ftold)))
    (ltold : K.lookup ftold = some ⟨octold, odtold, .func (PySem.W.fnOf "_is_told" "_is_told" (defArgs sTold) (defBody sTold) (defScope sTold) .none kVtold dctold pmtold antold cdtold cttold), sltold⟩)
    (ctold : PySem.W.codeIn K cdtold "_is_told" = true)
    (ktold : PySem.W.keepIn K (.ref ftold) = true)
    (acan : PySem.W.nsIn K mainGlobals "can_stand" = some (some (.ref fcan)))
    (lcan : K.lookup fcan = some ⟨occan, odcan, .func (PySem.W.fnOf "can_stand" "can_stand" (defArgs sCan) (defBody sCan) (defScope sCan) .none kVcan dccan pmcan ancan cdcan ctcan), slcan⟩)
    (ccan : PySem.W.codeIn K cdcan "can_stand" = true)
    (kcan : PySem.W.keepIn K (.ref fcan) = true)
    (gLE : PySem.W.nsIn K mainGlobals "LETTERS" = some (some (.str "abcdefghijklmnopqrstuvwxyz" tLE)))
    (gML : PySem.W.nsIn K mainGlobals "MOST_LETTERS" = some (some (.int 8 tML)))
    (gMV : PySem.W.nsIn K mainGlobals "MOST_VALUES" = some (some (.int 3 tMV)))
    (gMC : PySem.W.nsIn K mainGlobals "MOST_COLUMNS" = some (some (.int 3 tMC)))
    (gMF : PySem.W.nsIn K mainGlobals "MOST_FREE" = some (some (.int 2 tMF)))
    (aL : PySem.W.nsIn K mainGlobals "Look" = some (some (.ref C3)))
    (pgL : PySem.W.plainGet K C3 Str.empty = true)
    (hdL : PySem.W.hasDictIn K C3 = true)
    (poL : PySem.W.plainOver K C3 = true)
    (saL : PySem.W.findIn K (.ref C3) "__setattr__" = some (some (.builtin "object.__setattr__")))
    (nL0 : PySem.W.findIn K (.ref C3) "columns" = some none)
    (nL1 : PySem.W.findIn K (.ref C3) "steps" = some none)
    (mkL : PySem.W.makesIn K C3 = true)
    (kkL : PySem.W.keepIn K (.ref C3) = true)
    (clL : PySem.W.findIn K (.ref C3) "__class__" = some (some (.builtin "object.__class__")))
    (moL : PySem.W.mroIn K C3 (.type "object") = some true)
    (neL : PySem.W.findIn K (.ref C3) "__ne__" = some (some (.builtin "object.__ne__")))
    (tyL : PySem.W.typeIn K (.ref C3) = some (.type "type"))
    (ktL0 : PySem.W.subIn K (.type "NoneType") (.ref C3) = some false)
    (ktL1 : PySem.W.subIn K (.type "bool") (.ref C3) = some false)
    (ktL2 : PySem.W.subIn K (.type "int") (.ref C3) = some false)
    (ktL3 : PySem.W.subIn K (.type "str") (.ref C3) = some false)
    (ktL4 : PySem.W.subIn K (.type "list") (.ref C3) = some false)
    (ktL5 : PySem.W.subIn K (.type "tuple") (.ref C3) = some false)
    (ktL6 : PySem.W.subIn K (.type "dict") (.ref C3) = some false)
    (sfL : PySem.W.selfFirst K C3 = true)
    (iJ : PySem.W.findIn K (.ref C3) "__init__" = some (some (.ref fJ)))
    (fnJ : PySem.W.isFn K (.ref fJ) = true)
    (lJ : K.lookup fJ = some ⟨ocJ, odJ, .func (PySem.W.fnOf "__init__" "Look.__init__" (defArgs sLInit) (defBody sLInit) (defScope sLInit) .none kVJ dcJ pmJ anJ cdJ ctJ), slJ⟩)
    (cJ : PySem.W.codeIn K cdJ "Look.__init__" = true)
    (kJ : PySem.W.keepIn K (.ref fJ) = true)
    (ilfo : PySem.W.findIn K (.ref C3) "found" = some (some (.ref flfo)))
    (fnlfo : PySem.W.isFn K (.ref flfo) = true)
    (llfo : K.lookup flfo = some ⟨oclfo, odlfo, .func (PySem.W.fnOf "found" "Look.found" (defArgs sFound) (defBody sFound) (defScope sFound) .none kVlfo dclfo pmlfo anlfo cdlfo ctlfo), sllfo⟩)
    (clfo : PySem.W.codeIn K cdlfo "Look.found" = true)
    (klfo : PySem.W.keepIn K (.ref flfo) = true)
    (ilca : PySem.W.findIn K (.ref C3) "__call__" = some (some (.ref flca)))
    (fnlca : PySem.W.isFn K (.ref flca) = true)
    (llca : K.lookup flca = some ⟨oclca, odlca, .func (PySem.W.fnOf "__call__" "Look.__call__" (defArgs sLCall) (defBody sLCall) (defScope sLCall) .none kVlca dclca pmlca anlca cdlca ctlca), sllca⟩)
    (clca : PySem.W.codeIn K cdlca "Look.__call__" = true)
    (klca : PySem.W.keepIn K (.ref flca) = true)
    (filca : PySem.W.fnIn K flca = true)
    (ilan : PySem.W.findIn K (.ref C3) "__and__" = some (some (.ref flan)))
    (fnlan : PySem.W.isFn K (.ref flan) = true)
    (llan : K.lookup flan = some ⟨oclan, odlan, .func (PySem.W.fnOf "__and__" "Look.__and__" (defArgs sLAnd) (defBody sLAnd) (defScope sLAnd) .none kVlan dclan pmlan anlan cdlan ctlan), sllan⟩)
    (clan : PySem.W.codeIn K cdlan "Look.__and__" = true)
    (klan : PySem.W.keepIn K (.ref flan) = true)
    (ilor : PySem.W.findIn K (.ref C3) "__or__" = some (some (.ref flor)))
    (fnlor : PySem.W.isFn K (.ref flor) = true)
    (llor : K.lookup flor = some ⟨oclor, odlor, .func (PySem.W.fnOf "__or__" "Look.__or__" (defArgs sLOr) (defBody sLOr) (defScope sLOr) .none kVlor dclor pmlor anlor cdlor ctlor), sllor⟩)
    (clor : PySem.W.codeIn K cdlor "Look.__or__" = true)
    (klor : PySem.W.keepIn K (.ref flor) = true)
    (ilsu : PySem.W.findIn K (.ref C3) "__sub__" = some (some (.ref flsu)))
    (fnlsu : PySem.W.isFn K (.ref flsu) = true)
    (llsu : K.lookup flsu = some ⟨oclsu, odlsu, .func (PySem.W.fnOf "__sub__" "Look.__sub__" (defArgs sLSub) (defBody sLSub) (defScope sLSub) .none kVlsu dclsu pmlsu anlsu cdlsu ctlsu), sllsu⟩)
    (clsu : PySem.W.codeIn K cdlsu "Look.__sub__" = true)
    (klsu : PySem.W.keepIn K (.ref flsu) = true)
    (ilxo : PySem.W.findIn K (.ref C3) "__xor__" = some (some (.ref flxo)))
    (fnlxo : PySem.W.isFn K (.ref flxo) = true)
    (llxo : K.lookup flxo = some ⟨oclxo, odlxo, .func (PySem.W.fnOf "__xor__" "Look.__xor__" (defArgs sLXor) (defBody sLXor) (defScope sLXor) .none kVlxo dclxo pmlxo anlxo cdlxo ctlxo), sllxo⟩)
    (clxo : PySem.W.codeIn K cdlxo "Look.__xor__" = true)
    (klxo : PySem.W.keepIn K (.ref flxo) = true)
    (iliv : PySem.W.findIn K (.ref C3) "__invert__" = some (some (.ref fliv)))
    (fnliv : PySem.W.isFn K (.ref fliv) = true)
    (lliv : K.lookup fliv = some ⟨ocliv, odliv, .func (PySem.W.fnOf "__invert__" "Look.__invert__" (defArgs sLInv) (defBody sLInv) (defScope sLInv) .none kVliv dcliv pmliv anliv cdliv ctliv), slliv⟩)
    (cliv : PySem.W.codeIn K cdliv "Look.__invert__" = true)
    (kliv : PySem.W.keepIn K (.ref fliv) = true)
    (acnt : PySem.W.nsIn K mainGlobals "_count" = some (some (.ref fcnt)))
    (lcnt : K.lookup fcnt = some ⟨occnt, odcnt, .func (PySem.W.fnOf "_count" "_count" (defArgs sCount) (defBody sCount) (defScope sCount) .none kVcnt dccnt pmcnt ancnt cdcnt ctcnt), slcnt⟩)
    (ccnt : PySem.W.codeIn K cdcnt "_count" = true)
    (kcnt : PySem.W.keepIn K (.ref fcnt) = true)
    (afin : PySem.W.nsIn K mainGlobals "_found_in" = some (some (.ref ffin)))
    (lfin : K.lookup ffin = some ⟨ocfin, odfin, .func (PySem.W.fnOf "_found_in" "_found_in" (defArgs sFIn) (defBody sFIn) (defScope sFIn) .none kVfin dcfin pmfin anfin cdfin ctfin), slfin⟩)
    (cfin : PySem.W.codeIn K cdfin "_found_in" = true)
    (kfin : PySem.W.keepIn K (.ref ffin) = true)
    (afsm : PySem.W.nsIn K mainGlobals "_found_same" = some (some (.ref ffsm)))
    (lfsm : K.lookup ffsm = some ⟨ocfsm, odfsm, .func (PySem.W.fnOf "_found_same" "_found_same" (defArgs sFSame) (defBody sFSame) (defScope sFSame) .none kVfsm dcfsm pmfsm anfsm cdfsm ctfsm), slfsm⟩)
    (cfsm : PySem.W.codeIn K cdfsm "_found_same" = true)
    (kfsm : PySem.W.keepIn K (.ref ffsm) = true)
    (ajoi : PySem.W.nsIn K mainGlobals "_joined" = some (some (.ref fjoi)))
    (ljoi : K.lookup fjoi = some ⟨ocjoi, odjoi, .func (PySem.W.fnOf "_joined" "_joined" (defArgs sJoined) (defBody sJoined) (defScope sJoined) .none kVjoi dcjoi pmjoi anjoi cdjoi ctjoi), sljoi⟩)
    (cjoi : PySem.W.codeIn K cdjoi "_joined" = true)
    (kjoi : PySem.W.keepIn K (.ref fjoi) = true)
    (aava : PySem.W.nsIn K mainGlobals "are_values_looks" = some (some (.ref fava)))
    (lava : K.lookup fava = some ⟨ocava, odava, .func (PySem.W.fnOf "_are_values" "_are_values" (defArgs sAVal) (defBody sAVal) (defScope sAVal) .none kVava dcava pmava anava cdava ctava), slava⟩)
    (cava : PySem.W.codeIn K cdava "_are_values" = true)
    (kava : PySem.W.keepIn K (.ref fava) = true)
    (aanu : PySem.W.nsIn K mainGlobals "_are_numbers" = some (some (.ref fanu)))
    (lanu : K.lookup fanu = some ⟨ocanu, odanu, .func (PySem.W.fnOf "_are_numbers" "_are_numbers" (defArgs sANum) (defBody sANum) (defScope sANum) .none kVanu dcanu pmanu ananu cdanu ctanu), slanu⟩)
    (canu : PySem.W.codeIn K cdanu "_are_numbers" = true)
    (kanu : PySem.W.keepIn K (.ref fanu) = true)
    (ahas : PySem.W.nsIn K mainGlobals "has" = some (some (.ref fhas)))
    (lhas : K.lookup fhas = some ⟨ochas, odhas, .func (PySem.W.fnOf "has" "has" (defArgs sHas) (defBody sHas) (defScope sHas) .none kVhas dchas pmhas anhas cdhas cthas), slhas⟩)
    (chas : PySem.W.codeIn K cdhas "has" = true)
    (khas : PySem.W.keepIn K (.ref fhas) = true)
    (asm2 : PySem.W.nsIn K mainGlobals "same" = some (some (.ref fsm2)))
    (lsm2 : K.lookup fsm2 = some ⟨ocsm2, odsm2, .func (PySem.W.fnOf "same" "same" (defArgs sSame2) (defBody sSame2) (defScope sSame2) .none kVsm2 dcsm2 pmsm2 ansm2 cdsm2 ctsm2), slsm2⟩)
    (csm2 : PySem.W.codeIn K cdsm2 "same" = true)
    (ksm2 : PySem.W.keepIn K (.ref fsm2) = true)
    (anmb : PySem.W.nsIn K mainGlobals "numbered" = some (some (.ref fnmb)))
    (lnmb : K.lookup fnmb = some ⟨ocnmb, odnmb, .func (PySem.W.fnOf "numbered" "numbered" (defArgs sNumb) (defBody sNumb) (defScope sNumb) .none kVnmb dcnmb pmnmb annmb cdnmb ctnmb), slnmb⟩)
    (cnmb : PySem.W.codeIn K cdnmb "numbered" = true)
    (knmb : PySem.W.keepIn K (.ref fnmb) = true)
    (aeve : PySem.W.nsIn K mainGlobals "every" = some (some (.ref feve)))
    (leve : K.lookup feve = some ⟨oceve, odeve, .func (PySem.W.fnOf "every" "every" (defArgs sEvery) (defBody sEvery) (defScope sEvery) .none kVeve dceve pmeve aneve cdeve cteve), sleve⟩)
    (ceve : PySem.W.codeIn K cdeve "every" = true)
    (keve : PySem.W.keepIn K (.ref feve) = true)
    (gGN : PySem.W.nsIn K mainGlobals "GREATEST_NUMBER" = some (some (.int 4 tGN)))
    (apick : PySem.W.nsIn K mainGlobals "_law_pick" = some (some (.ref fpick)))
    (lpick : K.lookup fpick = some ⟨ocpick, odpick, .func (PySem.W.fnOf "_law_pick" "_law_pick" (defArgs sPick) (defBody sPick) (defScope sPick) .none kVpick dcpick pmpick anpick cdpick ctpick), slpick⟩)
    (cpick : PySem.W.codeIn K cdpick "_law_pick" = true)
    (kpick : PySem.W.keepIn K (.ref fpick) = true)
    (adraw : PySem.W.nsIn K mainGlobals "_law_draw" = some (some (.ref fdraw)))
    (ldraw : K.lookup fdraw = some ⟨ocdraw, oddraw, .func (PySem.W.fnOf "_law_draw" "_law_draw" (defArgs sDraw) (defBody sDraw) (defScope sDraw) .none kVdraw dcdraw pmdraw andraw cddraw ctdraw), sldraw⟩)
    (cdraw : PySem.W.codeIn K cddraw "_law_draw" = true)
    (kdraw : PySem.W.keepIn K (.ref fdraw) = true)
    (astart : PySem.W.nsIn K mainGlobals "_law_start" = some (some (.ref fstart)))
    (lstart : K.lookup fstart = some ⟨ocstart, odstart, .func (PySem.W.fnOf "_law_start" "_law_start" (defArgs sStart) (defBody sStart) (defScope sStart) .none kVstart dcstart pmstart anstart cdstart ctstart), slstart⟩)
    (cstart : PySem.W.codeIn K cdstart "_law_start" = true)
    (kstart : PySem.W.keepIn K (.ref fstart) = true)
    (aword : PySem.W.nsIn K mainGlobals "_law_word" = some (some (.ref fword)))
    (lword : K.lookup fword = some ⟨ocword, odword, .func (PySem.W.fnOf "_law_word" "_law_word" (defArgs sWord) (defBody sWord) (defScope sWord) .none kVword dcword pmword anword cdword ctword), slword⟩)
    (cword : PySem.W.codeIn K cdword "_law_word" = true)
    (kword : PySem.W.keepIn K (.ref fword) = true)
    (awords : PySem.W.nsIn K mainGlobals "_law_words" = some (some (.ref fwords)))
    (lwords : K.lookup fwords = some ⟨ocwords, odwords, .func (PySem.W.fnOf "_law_words" "_law_words" (defArgs sWords) (defBody sWords) (defScope sWords) .none kVwords dcwords pmwords anwords cdwords ctwords), slwords⟩)
    (cwords : PySem.W.codeIn K cdwords "_law_words" = true)
    (kwords : PySem.W.keepIn K (.ref fwords) = true)
    (awo : PySem.W.nsIn K mainGlobals "_law_world" = some (some (.ref fwo)))
    (lwo : K.lookup fwo = some ⟨ocwo, odwo, .func (PySem.W.fnOf "_law_world" "_law_world" (defArgs sWorld) (defBody sWorld) (defScope sWorld) .none kVwo dcwo pmwo anwo cdwo ctwo), slwo⟩)
    (cwo : PySem.W.codeIn K cdwo "_law_world" = true)
    (kwo : PySem.W.keepIn K (.ref fwo) = true)
    (acof : PySem.W.nsIn K mainGlobals "_law_columns" = some (some (.ref fcof)))
    (lcof : K.lookup fcof = some ⟨occof, odcof, .func (PySem.W.fnOf "_law_columns" "_law_columns" (defArgs sColsOf) (defBody sColsOf) (defScope sColsOf) .none kVcof dccof pmcof ancof cdcof ctcof), slcof⟩)
    (ccof : PySem.W.codeIn K cdcof "_law_columns" = true)
    (kcof : PySem.W.keepIn K (.ref fcof) = true)
    (ale : PySem.W.nsIn K mainGlobals "_law_letters" = some (some (.ref fle)))
    (lle : K.lookup fle = some ⟨ocle, odle, .func (PySem.W.fnOf "_law_letters" "_law_letters" (defArgs sLetters) (defBody sLetters) (defScope sLetters) .none kVle dcle pmle anle cdle ctle), slle⟩)
    (cle : PySem.W.codeIn K cdle "_law_letters" = true)
    (kle : PySem.W.keepIn K (.ref fle) = true)
    (aspr : PySem.W.nsIn K mainGlobals "_law_spare" = some (some (.ref fspr)))
    (lspr : K.lookup fspr = some ⟨ocspr, odspr, .func (PySem.W.fnOf "_law_spare" "_law_spare" (defArgs sSpare) (defBody sSpare) (defScope sSpare) .none kVspr dcspr pmspr anspr cdspr ctspr), slspr⟩)
    (cspr : PySem.W.codeIn K cdspr "_law_spare" = true)
    (kspr : PySem.W.keepIn K (.ref fspr) = true)
    (asame : PySem.W.nsIn K mainGlobals "_law_same" = some (some (.ref fsame)))
    (lsame : K.lookup fsame = some ⟨ocsame, odsame, .func (PySem.W.fnOf "_law_same" "_law_same" (defArgs sSame) (defBody sSame) (defScope sSame) .none kVsame dcsame pmsame ansame cdsame ctsame), slsame⟩)
    (csame : PySem.W.codeIn K cdsame "_law_same" = true)
    (ksame : PySem.W.keepIn K (.ref fsame) = true)
    (asom : PySem.W.nsIn K mainGlobals "_law_some" = some (some (.ref fsom)))
    (lsom : K.lookup fsom = some ⟨ocsom, odsom, .func (PySem.W.fnOf "_law_some" "_law_some" (defArgs sLSome) (defBody sLSome) (defScope sLSome) .none kVsom dcsom pmsom ansom cdsom ctsom), slsom⟩)
    (csom : PySem.W.codeIn K cdsom "_law_some" = true)
    (ksom : PySem.W.keepIn K (.ref fsom) = true)
    (aslk : PySem.W.nsIn K mainGlobals "_law_simple_look" = some (some (.ref fslk)))
    (lslk : K.lookup fslk = some ⟨ocslk, odslk, .func (PySem.W.fnOf "_law_simple_look" "_law_simple_look" (defArgs sSLook) (defBody sSLook) (defScope sSLook) .none kVslk dcslk pmslk anslk cdslk ctslk), slslk⟩)
    (cslk : PySem.W.codeIn K cdslk "_law_simple_look" = true)
    (kslk : PySem.W.keepIn K (.ref fslk) = true)
    (alok : PySem.W.nsIn K mainGlobals "_law_look" = some (some (.ref flok)))
    (llok : K.lookup flok = some ⟨oclok, odlok, .func (PySem.W.fnOf "_law_look" "_law_look" (defArgs sLook) (defBody sLook) (defScope sLook) .none kVlok dclok pmlok anlok cdlok ctlok), sllok⟩)
    (clok : PySem.W.codeIn K cdlok "_law_look" = true)
    (klok : PySem.W.keepIn K (.ref flok) = true)
    (alof : PySem.W.nsIn K mainGlobals "_law_look_of" = some (some (.ref flof)))
    (llof : K.lookup flof = some ⟨oclof, odlof, .func (PySem.W.fnOf "_law_look_of" "_law_look_of" (defArgs sLookOf) (defBody sLookOf) (defScope sLookOf) .none kVlof dclof pmlof anlof cdlof ctlof), sllof⟩)
    (clof : PySem.W.codeIn K cdlof "_law_look_of" = true)
    (klof : PySem.W.keepIn K (.ref flof) = true)
    (ahld : PySem.W.nsIn K mainGlobals "_law_holds" = some (some (.ref fhld)))
    (lhld : K.lookup fhld = some ⟨ochld, odhld, .func (PySem.W.fnOf "_law_holds" "_law_holds" (defArgs sHolds) (defBody sHolds) (defScope sHolds) .none kVhld dchld pmhld anhld cdhld cthld), slhld⟩)
    (chld : PySem.W.codeIn K cdhld "_law_holds" = true)
    (khld : PySem.W.keepIn K (.ref fhld) = true)
    (alaw : PySem.W.nsIn K mainGlobals "law" = some (some (.ref flaw)))
    (llaw : K.lookup flaw = some ⟨oclaw, odlaw, .func (PySem.W.fnOf "law" "law" (defArgs sLaw) (defBody sLaw) (defScope sLaw) .none kVlaw dclaw pmlaw anlaw cdlaw ctlaw), sllaw⟩)
    (claw : PySem.W.codeIn K cdlaw "law" = true)
    (klaw : PySem.W.keepIn K (.ref flaw) = true)
    (z_len : PySem.W.nsIn K mainGlobals "len" = some none)
    (z_list : PySem.W.nsIn K mainGlobals "list" = some none)
    (z_tuple : PySem.W.nsIn K mainGlobals "tuple" = some none)
    (z_zip : PySem.W.nsIn K mainGlobals "zip" = some none)
    (z_enumerate : PySem.W.nsIn K mainGlobals "enumerate" = some none)
    (z_range : PySem.W.nsIn K mainGlobals "range" = some none)
    (z_any : PySem.W.nsIn K mainGlobals "any" = some none)
    (z_all : PySem.W.nsIn K mainGlobals "all" = some none)
    (z_isinstance : PySem.W.nsIn K mainGlobals "isinstance" = some none)
    (z_int : PySem.W.nsIn K mainGlobals "int" = some none)
    (z_str : PySem.W.nsIn K mainGlobals "str" = some none)
    (z_bool : PySem.W.nsIn K mainGlobals "bool" = some none)
    (z_dict : PySem.W.nsIn K mainGlobals "dict" = some none)
    (z_sum : PySem.W.nsIn K mainGlobals "sum" = some none)
    (z_set : PySem.W.nsIn K mainGlobals "set" = some none)
    (z_sorted : PySem.W.nsIn K mainGlobals "sorted" = some none) :
    ∃ fd : FuncData, (∀ (s : Shared) (v : Value), BindsTo s fd ⟨[v], []⟩ [("_law_script", v)]) ∧ ∀ base : Heap, K.In base → base.Ns mainGlobals mg → FnOk l.prog w K mg base CX0 11 fa fd ["_law_script"] (spLaw K) := by
  have e := hfa.symm.trans (PySem.W.mg_of X G alaw)
  cases e
  have FI : FunD K "__init__" "Columns.__init__" (defArgs sInit) (defBody sInit) (defScope sInit) [V.ref TEI] [] fI (PySem.W.fnOf "__init__" "Columns.__init__" (defArgs sInit) (defBody sInit) (defScope sInit) (.ref TDI) kVI dcI pmI anI cdI ctI) := ⟨⟨ocI, odI, .ref TDI, kVI, dcI, pmI, anI, cdI, ctI, slI, rfl, lI, cI, .inr ⟨by simp, TDI, _, [.ref TEI], nTI, rfl, lTDI, rfl, .cons rfl .nil⟩, .inl rfl⟩, kI⟩
  obtain ⟨dsI, vI, bI'⟩ := FI.binds1 (ps := ["self", "told", "free"]) 3 1 (by simp) rfl (fun T kV doc pm an cdv ct us its hl hl2 => match us, its, hl, hl2 with | [_, _, _], [_], _, _ => ⟨_, rfl, rfl⟩)
  have bI : Binds K (PySem.W.fnOf "__init__" "Columns.__init__" (defArgs sInit) (defBody sInit) (defScope sInit) (.ref TDI) kVI dcI pmI anI cdI ctI) ["self", "told", "free"] [] := by
    cases vI
    exact bI'
  have Fnam := fun_mk (st := sNames) lnam cnam knam
  have bnam := Fnam.binds (ps := ["self"]) fun _ _ _ _ _ _ us hl => match us, hl with | [_], _ => rfl
  have Fctv := fun_mk (st := sTV) lctv cctv kctv
  have bctv := Fctv.binds (ps := ["self", "name"]) fun _ _ _ _ _ _ us hl => match us, hl with | [_, _], _ => rfl
  have Fcln := fun_mk (st := sLen) lcln ccln kcln
  have bcln := Fcln.binds (ps := ["self"]) fun _ _ _ _ _ _ us hl => match us, hl with | [_], _ => rfl
  have Fcin := fun_mk (st := sIn) lcin ccin kcin
  have bcin := Fcin.binds (ps := ["self", "thing"]) fun _ _ _ _ _ _ us hl => match us, hl with | [_, _], _ => rfl
  have Fceq := fun_mk (st := sEq) lceq cceq kceq
  have bceq := Fceq.binds (ps := ["self", "other"]) fun _ _ _ _ _ _ us hl => match us, hl with | [_, _], _ => rfl
  have FisNu := fun_mk (st := sIsNu) lisNu cisNu kisNu
  have bisNu := FisNu.binds (ps := ["thing"]) fun _ _ _ _ _ _ us hl => match us, hl with | [_], _ => rfl
  have FisW := fun_mk (st := sIsW) lisW cisW kisW
  have bisW := FisW.binds (ps := ["thing"]) fun _ _ _ _ _ _ us hl => match us, hl with | [_], _ => rfl
  have FisL := fun_mk (st := sIsL) lisL cisL kisL
  have bisL := FisL.binds (ps := ["thing"]) fun _ _ _ _ _ _ us hl => match us, hl with | [_], _ => rfl
  have FisN := fun_mk (st := sIsN) lisN cisN kisN
  have bisN := FisN.binds (ps := ["thing"]) fun _ _ _ _ _ _ us hl => match us, hl with | [_], _ => rfl
  have Fare := fun_mk (st := sAre) lare care kare
  have bare := Fare.binds (ps := ["thing"]) fun _ _ _ _ _ _ us hl => match us, hl with | [_], _ => rfl
  have Ftold := fun_mk (st := sTold) ltold ctold ktold
  have btold := Ftold.binds (ps := ["thing"]) fun _ _ _ _ _ _ us hl => match us, hl with | [_], _ => rfl
  have Fcan := fun_mk (st := sCan) lcan ccan kcan
  have bcan := Fcan.binds (ps := ["thing", "values"]) fun _ _ _ _ _ _ us hl => match us, hl with | [_, _], _ => rfl
  have FJ : FunD K "__init__" "Look.__init__" (defArgs sLInit) (defBody sLInit) (defScope sLInit) [] [] fJ (PySem.W.fnOf "__init__" "Look.__init__" (defArgs sLInit) (defBody sLInit) (defScope sLInit) .none kVJ dcJ pmJ anJ cdJ ctJ) := ⟨⟨ocJ, odJ, .none, kVJ, dcJ, pmJ, anJ, cdJ, ctJ, slJ, rfl, lJ, cJ, .inl ⟨rfl, rfl⟩, .inl rfl⟩, kJ⟩
  have GJ := fun_mk (st := sLInit) lJ cJ kJ
  have bJ := GJ.binds (ps := ["self", "columns", "steps"]) fun _ _ _ _ _ _ us hl => match us, hl with | [_, _, _], _ => rfl
  have Flfo := fun_mk (st := sFound) llfo clfo klfo
  have blfo := Flfo.binds (ps := ["self", "axes"]) fun _ _ _ _ _ _ us hl => match us, hl with | [_, _], _ => rfl
  have Flca := fun_mk (st := sLCall) llca clca klca
  have blca := Flca.binds (ps := ["self", "row", "number"]) fun _ _ _ _ _ _ us hl => match us, hl with | [_, _, _], _ => rfl
  have Flan := fun_mk (st := sLAnd) llan clan klan
  have blan := Flan.binds (ps := ["self", "other"]) fun _ _ _ _ _ _ us hl => match us, hl with | [_, _], _ => rfl
  have Flor := fun_mk (st := sLOr) llor clor klor
  have blor := Flor.binds (ps := ["self", "other"]) fun _ _ _ _ _ _ us hl => match us, hl with | [_, _], _ => rfl
  have Flsu := fun_mk (st := sLSub) llsu clsu klsu
  have blsu := Flsu.binds (ps := ["self", "other"]) fun _ _ _ _ _ _ us hl => match us, hl with | [_, _], _ => rfl
  have Flxo := fun_mk (st := sLXor) llxo clxo klxo
  have blxo := Flxo.binds (ps := ["self", "other"]) fun _ _ _ _ _ _ us hl => match us, hl with | [_, _], _ => rfl
  have Fliv := fun_mk (st := sLInv) lliv cliv kliv
  have bliv := Fliv.binds (ps := ["self"]) fun _ _ _ _ _ _ us hl => match us, hl with | [_], _ => rfl
  have Fcnt := fun_mk (st := sCount) lcnt ccnt kcnt
  have bcnt := Fcnt.binds (ps := ["axes"]) fun _ _ _ _ _ _ us hl => match us, hl with | [_], _ => rfl
  have Ffin := fun_mk (st := sFIn) lfin cfin kfin
  have bfin := Ffin.binds (ps := ["axes", "at", "things"]) fun _ _ _ _ _ _ us hl => match us, hl with | [_, _, _], _ => rfl
  have Ffsm := fun_mk (st := sFSame) lfsm cfsm kfsm
  have bfsm := Ffsm.binds (ps := ["axes", "first", "second"]) fun _ _ _ _ _ _ us hl => match us, hl with | [_, _, _], _ => rfl
  have Fjoi := fun_mk (st := sJoined) ljoi cjoi kjoi
  have bjoi := Fjoi.binds (ps := ["one", "other", "sign"]) fun _ _ _ _ _ _ us hl => match us, hl with | [_, _, _], _ => rfl
  have Fava := fun_mk (st := sAVal) lava cava kava
  have bava := Fava.binds (ps := ["things", "told"]) fun _ _ _ _ _ _ us hl => match us, hl with | [_, _], _ => rfl
  have Fanu := fun_mk (st := sANum) lanu canu kanu
  have banu := Fanu.binds (ps := ["things"]) fun _ _ _ _ _ _ us hl => match us, hl with | [_], _ => rfl
  have Fhas := fun_mk (st := sHas) lhas chas khas
  have bhas := Fhas.binds (ps := ["columns", "name", "values"]) fun _ _ _ _ _ _ us hl => match us, hl with | [_, _, _], _ => rfl
  have Fsm2 := fun_mk (st := sSame2) lsm2 csm2 ksm2
  have bsm2 := Fsm2.binds (ps := ["columns", "first", "second"]) fun _ _ _ _ _ _ us hl => match us, hl with | [_, _, _], _ => rfl
  have Fnmb := fun_mk (st := sNumb) lnmb cnmb knmb
  have bnmb := Fnmb.binds (ps := ["columns", "numbers"]) fun _ _ _ _ _ _ us hl => match us, hl with | [_, _], _ => rfl
  have Feve := fun_mk (st := sEvery) leve ceve keve
  have beve := Feve.binds (ps := ["columns"]) fun _ _ _ _ _ _ us hl => match us, hl with | [_], _ => rfl
  have Fpick := fun_mk (st := sPick) lpick cpick kpick
  have bpick := Fpick.binds (ps := ["_law_stream", "_law_some_here"]) fun _ _ _ _ _ _ us hl => match us, hl with | [_, _], _ => rfl
  have Fdraw := fun_mk (st := sDraw) ldraw cdraw kdraw
  have bdraw := Fdraw.binds (ps := ["_law_stream", "_law_many"]) fun _ _ _ _ _ _ us hl => match us, hl with | [_, _], _ => rfl
  have Fstart := fun_mk (st := sStart) lstart cstart kstart
  have bstart := Fstart.binds (ps := ["_law_script"]) fun _ _ _ _ _ _ us hl => match us, hl with | [_], _ => rfl
  have Fword := fun_mk (st := sWord) lword cword kword
  have bword := Fword.binds (ps := ["_law_stream"]) fun _ _ _ _ _ _ us hl => match us, hl with | [_], _ => rfl
  have Fwords := fun_mk (st := sWords) lwords cwords kwords
  have bwords := Fwords.binds (ps := ["_law_stream", "_law_many"]) fun _ _ _ _ _ _ us hl => match us, hl with | [_, _], _ => rfl
  have Fwo := fun_mk (st := sWorld) lwo cwo kwo
  have bwo := Fwo.binds (ps := ["_law_stream", "_law_shapes"]) fun _ _ _ _ _ _ us hl => match us, hl with | [_, _], _ => rfl
  have Fcof := fun_mk (st := sColsOf) lcof ccof kcof
  have bcof := Fcof.binds (ps := ["_law_w"]) fun _ _ _ _ _ _ us hl => match us, hl with | [_], _ => rfl
  have Fle := fun_mk (st := sLetters) lle cle kle
  have ble := Fle.binds (ps := ["_law_w"]) fun _ _ _ _ _ _ us hl => match us, hl with | [_], _ => rfl
  have Fspr := fun_mk (st := sSpare) lspr cspr kspr
  have bspr := Fspr.binds (ps := ["_law_w"]) fun _ _ _ _ _ _ us hl => match us, hl with | [_], _ => rfl
  have Fsame := fun_mk (st := sSame) lsame csame ksame
  have bsame := Fsame.binds (ps := ["_law_found", "_law_due"]) fun _ _ _ _ _ _ us hl => match us, hl with | [_, _], _ => rfl
  have Fsom := fun_mk (st := sLSome) lsom csom ksom
  have bsom := Fsom.binds (ps := ["_law_stream", "_law_things"]) fun _ _ _ _ _ _ us hl => match us, hl with | [_, _], _ => rfl
  have Fslk := fun_mk (st := sSLook) lslk cslk kslk
  have bslk := Fslk.binds (ps := ["_law_stream", "_law_w", "_law_far"]) fun _ _ _ _ _ _ us hl => match us, hl with | [_, _, _], _ => rfl
  have Flok := fun_mk (st := sLook) llok clok klok
  have blok := Flok.binds (ps := ["_law_stream", "_law_w", "_law_far", "_law_deep"]) fun _ _ _ _ _ _ us hl => match us, hl with | [_, _, _, _], _ => rfl
  have Flof := fun_mk (st := sLookOf) llof clof klof
  have blof := Flof.binds (ps := ["_law_columns_here", "_law_look_here"]) fun _ _ _ _ _ _ us hl => match us, hl with | [_, _], _ => rfl
  have Fhld := fun_mk (st := sHolds) lhld chld khld
  have bhld := Fhld.binds (ps := ["_law_w", "_law_look_here", "_law_row", "_law_number"]) fun _ _ _ _ _ _ us hl => match us, hl with | [_, _, _, _], _ => rfl
  have Flaw := fun_mk (st := sLaw) llaw claw klaw
  have y_len := PySem.W.mg_none_of X G z_len
  have y_list := PySem.W.mg_none_of X G z_list
  have y_tuple := PySem.W.mg_none_of X G z_tuple
  have y_zip := PySem.W.mg_none_of X G z_zip
  have y_enumerate := PySem.W.mg_none_of X G z_enumerate
  have y_range := PySem.W.mg_none_of X G z_range
  have y_any := PySem.W.mg_none_of X G z_any
  have y_all := PySem.W.mg_none_of X G z_all
  have y_isinstance := PySem.W.mg_none_of X G z_isinstance
  have y_int := PySem.W.mg_none_of X G z_int
  have y_str := PySem.W.mg_none_of X G z_str
  have y_bool := PySem.W.mg_none_of X G z_bool
  have y_dict := PySem.W.mg_none_of X G z_dict
  have y_sum := PySem.W.mg_none_of X G z_sum
  have y_set := PySem.W.mg_none_of X G z_set
  have y_sorted := PySem.W.mg_none_of X G z_sorted
  have B : TxB2 mg := ⟨⟨y_len, y_list, y_tuple, y_zip, y_enumerate, y_range, y_any, y_all, y_isinstance, y_int, y_str, y_bool, y_dict, y_sum, y_set⟩, y_sorted⟩
  have clsC : Cls K C := ⟨pgC, hdC, poC, saC⟩
  have clsL : Cls K C3 := ⟨pgL, hdL, poL, saL⟩
  have ocC' : OwnC K C := ⟨fun e => .ins e clsC clC gsC tkC moC, fun s hs => by
    simp only [List.mem_cons, List.not_mem_nil, or_false] at hs
    rcases hs with rfl | rfl | rfl | rfl | rfl | rfl | rfl
    · exact kit_no hdC tyC ktC0
    · exact kit_no hdC tyC ktC1
    · exact kit_no hdC tyC ktC2
    · exact kit_no hdC tyC ktC3
    · exact kit_no hdC tyC ktC4
    · exact kit_no hdC tyC ktC5
    · exact kit_no hdC tyC ktC6⟩
  refine ⟨PySem.W.fnOf "law" "law" (defArgs sLaw) (defBody sLaw) (defScope sLaw) .none kVlaw dclaw pmlaw anlaw cdlaw ctlaw, fun s v => .of_eq rfl, fun base _ _ => ?_⟩
  have hNu : Fn l.prog w K mg base "is_number" 1 1 fIsNu := ⟨_, _, _, okIsNu FisNu B, PySem.W.mg_of X G aisNu, kisNu, bisNu⟩
  have hW : Fn l.prog w K mg base "is_word" 1 1 fIsW := ⟨_, _, _, okIsW FisW B (PySem.W.mg_of X G gLE) (PySem.W.mg_of X G gML), PySem.W.mg_of X G aisW, kisW, bisW⟩
  have hL : Fn l.prog w K mg base "is_list" 1 1 fIsL := ⟨_, _, _, okIsL FisL B, PySem.W.mg_of X G aisL, kisL, bisL⟩
  have hN : Fn l.prog w K mg base "_is_name" 2 1 fIsN := ⟨_, _, _, okIsN FisN B hW, PySem.W.mg_of X G aisN, kisN, bisN⟩
  have hA : Fn l.prog w K mg base "are_values_columns" 2 1 fAre := ⟨_, _, _, okAre Fare B (PySem.W.mg_of X G gMV) hW hL, PySem.W.mg_of X G aare, kare, bare⟩
  have hT : Fn l.prog w K mg base "_is_told" 3 1 fTold := ⟨_, _, _, okTold Ftold B hL hN hA, PySem.W.mg_of X G atold, ktold, btold⟩
  have hC : Fn l.prog w K mg base "can_stand" 2 2 fCan := ⟨_, _, _, okCan Fcan B hW, PySem.W.mg_of X G acan, kcan, bcan⟩
  have hM : Mkr l.prog w K mg base "Columns" C 4 (fInit C) := ⟨_, _, _, ⟨mkC, iI, fnI, kkC⟩, PySem.W.mg_of X G aC, okInit C FI B clsC nC0 (PySem.W.mg_of X G gMC) (PySem.W.mg_of X G gMF) hT hN, bI⟩
  have mN : MthO l.prog w K mg base C "names" 1 (fNames C) := ⟨_, _, _, clsC, ⟨inam, fnnam, knam⟩, okNames C Fnam B clsC nC0, bnam⟩
  have mL : Len l.prog w K mg base C 1 (fLen C) := ⟨_, _, _, ⟨icln, fncln⟩, okLen C Fcln B clsC nC0, bcln⟩
  have mI : L2.Tr.Con l.prog w K mg base C 1 (fIn C) := ⟨_, _, _, ⟨icin, fncin⟩, okIn C Fcin B clsC nC0, bcin⟩
  have mT : Mth l.prog w K mg base C "told_values" 2 (fTV C) := ⟨_, _, _, clsC, ⟨ictv, fnctv, kctv⟩, okTV C Fctv B clsC nC0 mI, bctv⟩
  have mE : Eqr l.prog w K mg base C 1 (fEq C) := ⟨_, _, _, ⟨iceq, fnceq, neC, moC⟩, okEq C Fceq B clsC nC0 ocC' (PySem.W.mg_of X G aC), bceq⟩
  have hMk : Mkr l.prog w K mg base "Look" C3 2 (fLInit C3) := ⟨_, _, _, ⟨mkL, iJ, fnJ, kkL⟩, PySem.W.mg_of X G aL, okLInit C3 FJ B clsL nL0 nL1, bJ⟩
  have hCt : Fn l.prog w K mg base "_count" 1 1 fCount := ⟨_, _, _, okCount Fcnt B, PySem.W.mg_of X G acnt, kcnt, bcnt⟩
  have hFi : Fn l.prog w K mg base "_found_in" 2 3 fFIn := ⟨_, _, _, okFIn Ffin B hCt, PySem.W.mg_of X G afin, kfin, bfin⟩
  have hFs : Fn l.prog w K mg base "_found_same" 2 3 fFSame := ⟨_, _, _, okFSame Ffsm B hCt, PySem.W.mg_of X G afsm, kfsm, bfsm⟩
  have mF : Mth l.prog w K mg base C3 "found" 3 (fFound C3) := ⟨_, _, _, clsL, ⟨ilfo, fnlfo, klfo⟩, okFound C3 Flfo B clsL nL0 nL1 hCt hFi hFs, blfo⟩
  have mC : ClO l.prog w K mg base C3 4 (fLCall C3) := ⟨_, _, _, ⟨ilca, fnlca, filca⟩, okLCall C3 Flca B clsL nL0 nL1 mF, blca⟩
  have hJ : Fn l.prog w K mg base "_joined" 4 3 (fJoined C C3 (fEq C)) := ⟨_, _, _, okJoined C C3 _ Fjoi B clsL nL0 nL1 hMk mE, PySem.W.mg_of X G ajoi, kjoi, bjoi⟩
  have hAnd : BinO l.prog w K mg base C3 "__and__" 5 (fLAnd C C3 (fEq C)) := ⟨_, _, _, ⟨ilan, fnlan, sfL⟩, okLAnd C C3 _ Flan B hJ, blan⟩
  have hOr : BinO l.prog w K mg base C3 "__or__" 5 (fLOr C C3 (fEq C)) := ⟨_, _, _, ⟨ilor, fnlor, sfL⟩, okLOr C C3 _ Flor B hJ, blor⟩
  have hInv : BinO l.prog w K mg base C3 "__invert__" 4 (fLInv C3) := ⟨_, _, _, ⟨iliv, fnliv, sfL⟩, okLInv C3 Fliv B clsL nL0 nL1 hMk, bliv⟩
  have hSub : BinO l.prog w K mg base C3 "__sub__" 6 (fLSub C C3 (fEq C)) := ⟨_, _, _, ⟨ilsu, fnlsu, sfL⟩, okLSub C C3 _ Flsu B hAnd hInv, blsu⟩
  have hXor : BinO l.prog w K mg base C3 "__xor__" 6 (fLXor C C3 (fEq C)) := ⟨_, _, _, ⟨ilxo, fnlxo, sfL⟩, okLXor C C3 _ Flxo B hAnd hOr hInv, blxo⟩
  have hAV : Fn l.prog w K mg base "are_values_looks" 3 2 fAVal := ⟨_, _, _, okAVal Fava B hL hC, PySem.W.mg_of X G aava, kava, bava⟩
  have hAN : Fn l.prog w K mg base "_are_numbers" 2 1 fANum := ⟨_, _, _, okANum Fanu B (PySem.W.mg_of X G gGN) hL hNu, PySem.W.mg_of X G aanu, kanu, banu⟩
  have hHas : Fn l.prog w K mg base "has" 4 3 (fHas C C3) := ⟨_, _, _, okHas C C3 Fhas B hMk mT mN hAV, PySem.W.mg_of X G ahas, khas, bhas⟩
  have hSm : Fn l.prog w K mg base "same" 4 3 (fSame2 C C3) := ⟨_, _, _, okSame2 C C3 Fsm2 B hMk mT mN, PySem.W.mg_of X G asm2, ksm2, bsm2⟩
  have hNum : Fn l.prog w K mg base "numbered" 4 2 (fNumb C C3) := ⟨_, _, _, okNumb C C3 Fnmb B hMk mL hAN, PySem.W.mg_of X G anmb, knmb, bnmb⟩
  have hEv : Fn l.prog w K mg base "every" 4 1 (fEvery C3) := ⟨_, _, _, okEvery C3 Feve B hMk, PySem.W.mg_of X G aeve, keve, beve⟩
  have Gdr := ok_draw (P := l.prog) (w := w) (base := base) Fdraw ⟨y_int, y_list⟩
  have Gst := ok_start (P := l.prog) (w := w) (base := base) Fstart ⟨y_int, y_list⟩
  have GpS := ok_pickS (P := l.prog) (w := w) (base := base) Fpick y_len (PySem.W.mg_of X G adraw) kdraw Gdr bdraw
  have Gwd := ok_word (P := l.prog) (w := w) (base := base) Fword y_range (PySem.W.mg_of X G adraw) kdraw Gdr bdraw (PySem.W.mg_of X G apick) kpick GpS bpick
  have hDr : FnE l.prog w K mg base "_law_draw" 1 spDraw := ⟨_, _, _, Gdr, PySem.W.mg_of X G adraw, kdraw, bdraw⟩
  have hPk : FnE l.prog w K mg base "_law_pick" 2 (spS fPickW) := ⟨_, _, _, okPickW Fpick B hDr, PySem.W.mg_of X G apick, kpick, bpick⟩
  have hWd : FnE l.prog w K mg base "_law_word" 3 spWord := ⟨_, _, _, Gwd, PySem.W.mg_of X G aword, kword, bword⟩
  have hWs : FnE l.prog w K mg base "_law_words" 4 (spS fWords) := ⟨_, _, _, okWords Fwords B hWd, PySem.W.mg_of X G awords, kwords, bwords⟩
  have hWo : FnE l.prog w K mg base "_law_world" 5 (spS fWorld) := ⟨_, _, _, okWorld Fwo B hDr hPk hWs, PySem.W.mg_of X G awo, kwo, bwo⟩
  have hSp : Fn l.prog w K mg base "_law_spare" 1 1 fSpare := ⟨_, _, _, okSpare Fspr B, PySem.W.mg_of X G aspr, kspr, bspr⟩
  have hLe : Fn l.prog w K mg base "_law_letters" 2 1 fLetters := ⟨_, _, _, okLetters Fle B hSp, PySem.W.mg_of X G ale, kle, ble⟩
  have hCo : Fn l.prog w K mg base "_law_columns" 6 1 (fColsOf C (fInit C)) := ⟨_, _, _, okColsOf C _ Fcof B hM, PySem.W.mg_of X G acof, kcof, bcof⟩
  have hS : Fn l.prog w K mg base "_law_same" 4 2 (smN 4) := fn_same Fsame B (PySem.W.mg_of X G asame) ksame bsame 4
  have hHo : Fn l.prog w K mg base "_law_holds" 4 4 (fHo 4) := fn_holds Fhld B (PySem.W.mg_of X G ahld) khld bhld 4
  have hLo : Fn l.prog w K mg base "_law_look_of" 9 2 (fOf C C3 3) := fn_of Flof B (PySem.W.mg_of X G alof) klof blof hHas hSm hNum hEv hAnd hOr hSub hXor hInv 3
  have hSo : FnE l.prog w K mg base "_law_some" 3 (spS fLSome) := ⟨_, _, _, okLSome Fsom B hDr hPk, PySem.W.mg_of X G asom, ksom, bsom⟩
  have hSl : FnE l.prog w K mg base "_law_simple_look" 4 (spS fSLook) := ⟨_, _, _, okSLook Fslk B hDr hSo, PySem.W.mg_of X G aslk, kslk, bslk⟩
  have hLk : FnE l.prog w K mg base "_law_look" 7 (spS (gLkN 3)) := fn_look Flok B (PySem.W.mg_of X G alok) klok blok hDr hPk hSl 3
  exact ok_law Flaw B (PySem.W.mg_of X G astart) kstart Gst bstart hDr hWo hLk hCo hLo hLe hHo hS clsL nL0 mE mC
theorem walk {l : PySem.W.OpenLaw} {q : Program} {loose : List Str} {XP : (Str → Option Value) → Heap → Prop} {YP : World → Heap → Prop} {d : DefRec} {K : Params → PySem.W.Frag} (hn : l.most = some 63) (hdf : d.params.defaults = [])
    (hY : ∀ (w : World) (h : Heap), YP w h → (K w.params).In h)
    (F : ∀ (w : World) (mg : Str → Option Value) (fa : Addr) (h : Heap), (K w.params).In h → h.Ns mainGlobals mg → mg d.name = some (.ref fa) →
      ∃ fd : FuncData, (∀ (s : Shared) (u : Value), BindsTo s fd ⟨[u], []⟩ [("_law_script", u)]) ∧ ∀ base : Heap, (K w.params).In base → base.Ns mainGlobals mg → FnOk l.prog w (K w.params) mg base CX0 11 fa fd ["_law_script"] (spLaw (K w.params))) :
    PySem.W.WalkO q loose XP YP l.row.toRowW d [] (fun f vs => PySem.call f vs) :=
  L2.walk_of (n := 63) (k := 11) (x := "_law_script") (CX := fun _ => CX0) (sp := fun w => spLaw (K w.params)) hn (by decide) hdf ⟨rfl, by decide, by decide⟩ hY F (fun _ _ a ns hl _ hS => ⟨a, ns, rfl, hS, fun _ => rfl⟩) fun _ _ _ _ _ z => z
end L2.K1

open PySem PySem.W PyProof.Rows
set_option maxRecDepth 100000 in
set_option maxHeartbeats 0 in
theorem PySem.Challenge.cw_toldthere_k03_looks_found_holds : PySem.Challenge.rw_toldthere_k03_looks_found.Holds := by
  w_on; o_law; k_head; (case hw => w_witness2)
  k_fill
  refine L2.K1.walk (l := PySem.Challenge.rw_toldthere_k03_looks_found) rfl rfl (fun w h Y => PySem.W.kIn_of Y) ?F
  case F =>
    intro w mg fa h KX G hmg
    refine' L2.K1.all_mk KX G hmg ?aC ?pgC ?hdC ?poC ?saC ?nC0 ?mkC ?kkC ?clC ?moC ?neC ?tyC ?ktC0 ?ktC1 ?ktC2 ?ktC3 ?ktC4 ?ktC5 ?ktC6 ?gsC ?tkC ?iI ?fnI ?lI ?cI ?kI ?lTDI ?inam ?fnnam ?lnam ?cnam ?knam ?ictv ?fnctv ?lctv ?cctv ?kctv ?icln ?fncln ?lcln ?ccln ?kcln ?icin ?fncin ?lcin ?ccin ?kcin ?iceq ?fnceq ?lceq ?cceq ?kceq ?aisNu ?lisNu ?cisNu ?kisNu ?aisW ?lisW ?cisW ?kisW ?aisL ?lisL ?cisL ?kisL ?aisN ?lisN ?cisN ?kisN ?aare ?lare ?care ?kare ?atold ?ltold ?ctold ?ktold ?acan ?lcan ?ccan ?kcan ?gLE ?gML ?gMV ?gMC ?gMF ?aL ?pgL ?hdL ?poL ?saL ?nL0 ?nL1 ?mkL ?kkL ?clL ?moL ?neL ?tyL ?ktL0 ?ktL1 ?ktL2 ?ktL3 ?ktL4 ?ktL5 ?ktL6 ?sfL ?iJ ?fnJ ?lJ ?cJ ?kJ ?ilfo ?fnlfo ?llfo ?clfo ?klfo ?ilca ?fnlca ?llca ?clca ?klca ?filca ?ilan ?fnlan ?llan ?clan ?klan ?ilor ?fnlor ?llor ?clor ?klor ?ilsu ?fnlsu ?llsu ?clsu ?klsu ?ilxo ?fnlxo ?llxo ?clxo ?klxo ?iliv ?fnliv ?lliv ?cliv ?kliv ?acnt ?lcnt ?ccnt ?kcnt ?afin ?lfin ?cfin ?kfin ?afsm ?lfsm ?cfsm ?kfsm ?ajoi ?ljoi ?cjoi ?kjoi ?aava ?lava ?cava ?kava ?aanu ?lanu ?canu ?kanu ?ahas ?lhas ?chas ?khas ?asm2 ?lsm2 ?csm2 ?ksm2 ?anmb ?lnmb ?cnmb ?knmb ?aeve ?leve ?ceve ?keve ?gGN ?apick ?lpick ?cpick ?kpick ?adraw ?ldraw ?cdraw ?kdraw ?astart ?lstart ?cstart ?kstart ?aword ?lword ?cword ?kword ?awords ?lwords ?cwords ?kwords ?awo ?lwo ?cwo ?kwo ?acof ?lcof ?ccof ?kcof ?ale ?lle ?cle ?kle ?aspr ?lspr ?cspr ?kspr ?asame ?lsame ?csame ?ksame ?asom ?lsom ?csom ?ksom ?aslk ?lslk ?cslk ?kslk ?alok ?llok ?clok ?klok ?alof ?llof ?clof ?klof ?ahld ?lhld ?chld ?khld ?alaw ?llaw ?claw ?klaw ?z_len ?z_list ?z_tuple ?z_zip ?z_enumerate ?z_range ?z_any ?z_all ?z_isinstance ?z_int ?z_str ?z_bool ?z_dict ?z_sum ?z_set ?z_sorted
    (case aC => k_is)
    (case pgC => k_is)
    (case hdC => k_is)
    (case poC => k_is)
    (case saC => k_is)
    (case nC0 => k_is)
    (case mkC => k_is)
    (case kkC => k_is)
    (case clC => k_is)
    (case moC => k_is)
    (case neC => k_is)
    (case tyC => k_is)
    (case ktC0 => first | k_is | rfl | (with_unfolding_all rfl))
    (case ktC1 => first | k_is | rfl | (with_unfolding_all rfl))
    (case ktC2 => first | k_is | rfl | (with_unfolding_all rfl))
    (case ktC3 => first | k_is | rfl | (with_unfolding_all rfl))
    (case ktC4 => first | k_is | rfl | (with_unfolding_all rfl))
    (case ktC5 => first | k_is | rfl | (with_unfolding_all rfl))
    (case ktC6 => first | k_is | rfl | (with_unfolding_all rfl))
    (case gsC => k_is)
    (case tkC => k_is)
    (case iI => k_is)
    (case fnI => k_is)
    (case lI => k_is)
    (case cI => k_is)
    (case kI => k_is)
    (case lTDI => k_is)
    (case inam => k_is)
    (case fnnam => k_is)
    (case lnam => k_is)
    (case cnam => k_is)
    (case knam => k_is)
    (case ictv => k_is)
    (case fnctv => k_is)
    (case lctv => k_is)
    (case cctv => k_is)
    (case kctv => k_is)
    (case icln => k_is)
    (case fncln => k_is)
    (case lcln => k_is)
    (case ccln => k_is)
    (case kcln => k_is)
    (case icin => k_is)
    (case fncin => k_is)
    (case lcin => k_is)
    (case ccin => k_is)
    (case kcin => k_is)
    (case iceq => k_is)
    (case fnceq => k_is)
    (case lceq => k_is)
    (case cceq => k_is)
    (case kceq => k_is)
    (case aisNu => k_is)
    (case lisNu => k_is)
    (case cisNu => k_is)
    (case kisNu => k_is)
    (case aisW => k_is)
    (case lisW => k_is)
    (case cisW => k_is)
    (case kisW => k_is)
    (case aisL => k_is)
    (case lisL => k_is)
    (case cisL => k_is)
    (case kisL => k_is)
    (case aisN => k_is)
    (case lisN => k_is)
    (case cisN => k_is)
    (case kisN => k_is)
    (case aare => k_is)
    (case lare => k_is)
    (case care => k_is)
    (case kare => k_is)
    (case atold => k_is)
    (case ltold => k_is)
    (case ctold => k_is)
    (case ktold => k_is)
    (case acan => k_is)
    (case lcan => k_is)
    (case ccan => k_is)
    (case kcan => k_is)
    (case gLE => k_is)
    (case gML => k_is)
    (case gMV => k_is)
    (case gMC => k_is)
    (case gMF => k_is)
    (case aL => k_is)
    (case pgL => k_is)
    (case hdL => k_is)
    (case poL => k_is)
    (case saL => k_is)
    (case nL0 => k_is)
    (case nL1 => k_is)
    (case mkL => k_is)
    (case kkL => k_is)
    (case clL => k_is)
    (case moL => k_is)
    (case neL => k_is)
    (case tyL => k_is)
    (case ktL0 => first | k_is | rfl | (with_unfolding_all rfl))
    (case ktL1 => first | k_is | rfl | (with_unfolding_all rfl))
    (case ktL2 => first | k_is | rfl | (with_unfolding_all rfl))
    (case ktL3 => first | k_is | rfl | (with_unfolding_all rfl))
    (case ktL4 => first | k_is | rfl | (with_unfolding_all rfl))
    (case ktL5 => first | k_is | rfl | (with_unfolding_all rfl))
    (case ktL6 => first | k_is | rfl | (with_unfolding_all rfl))
    (case sfL => k_is)
    (case iJ => k_is)
    (case fnJ => k_is)
    (case lJ => k_is)
    (case cJ => k_is)
    (case kJ => k_is)
    (case ilfo => k_is)
    (case fnlfo => k_is)
    (case llfo => k_is)
    (case clfo => k_is)
    (case klfo => k_is)
    (case ilca => k_is)
    (case fnlca => k_is)
    (case llca => k_is)
    (case clca => k_is)
    (case klca => k_is)
    (case filca => k_is)
    (case ilan => k_is)
    (case fnlan => k_is)
    (case llan => k_is)
    (case clan => k_is)
    (case klan => k_is)
    (case ilor => k_is)
    (case fnlor => k_is)
    (case llor => k_is)
    (case clor => k_is)
    (case klor => k_is)
    (case ilsu => k_is)
    (case fnlsu => k_is)
    (case llsu => k_is)
    (case clsu => k_is)
    (case klsu => k_is)
    (case ilxo => k_is)
    (case fnlxo => k_is)
    (case llxo => k_is)
    (case clxo => k_is)
    (case klxo => k_is)
    (case iliv => k_is)
    (case fnliv => k_is)
    (case lliv => k_is)
    (case cliv => k_is)
    (case kliv => k_is)
    (case acnt => k_is)
    (case lcnt => k_is)
    (case ccnt => k_is)
    (case kcnt => k_is)
    (case afin => k_is)
    (case lfin => k_is)
    (case cfin => k_is)
    (case kfin => k_is)
    (case afsm => k_is)
    (case lfsm => k_is)
    (case cfsm => k_is)
    (case kfsm => k_is)
    (case ajoi => k_is)
    (case ljoi => k_is)
    (case cjoi => k_is)
    (case kjoi => k_is)
    (case aava => k_is)
    (case lava => k_is)
    (case cava => k_is)
    (case kava => k_is)
    (case aanu => k_is)
    (case lanu => k_is)
    (case canu => k_is)
    (case kanu => k_is)
    (case ahas => k_is)
    (case lhas => k_is)
    (case chas => k_is)
    (case khas => k_is)
    (case asm2 => k_is)
    (case lsm2 => k_is)
    (case csm2 => k_is)
    (case ksm2 => k_is)
    (case anmb => k_is)
    (case lnmb => k_is)
    (case cnmb => k_is)
    (case knmb => k_is)
    (case aeve => k_is)
    (case leve => k_is)
    (case ceve => k_is)
    (case keve => k_is)
    (case gGN => k_is)
    (case apick => k_is)
    (case lpick => k_is)
    (case cpick => k_is)
    (case kpick => k_is)
    (case adraw => k_is)
    (case ldraw => k_is)
    (case cdraw => k_is)
    (case kdraw => k_is)
    (case astart => k_is)
    (case lstart => k_is)
    (case cstart => k_is)
    (case kstart => k_is)
    (case aword => k_is)
    (case lword => k_is)
    (case cword => k_is)
    (case kword => k_is)
    (case awords => k_is)
    (case lwords => k_is)
    (case cwords => k_is)
    (case kwords => k_is)
    (case awo => k_is)
    (case lwo => k_is)
    (case cwo => k_is)
    (case kwo => k_is)
    (case acof => k_is)
    (case lcof => k_is)
    (case ccof => k_is)
    (case kcof => k_is)
    (case ale => k_is)
    (case lle => k_is)
    (case cle => k_is)
    (case kle => k_is)
    (case aspr => k_is)
    (case lspr => k_is)
    (case cspr => k_is)
    (case kspr => k_is)
    (case asame => k_is)
    (case lsame => k_is)
    (case csame => k_is)
    (case ksame => k_is)
    (case asom => k_is)
    (case lsom => k_is)
    (case csom => k_is)
    (case ksom => k_is)
    (case aslk => k_is)
    (case lslk => k_is)
    (case cslk => k_is)
    (case kslk => k_is)
    (case alok => k_is)
    (case llok => k_is)
    (case clok => k_is)
    (case klok => k_is)
    (case alof => k_is)
    (case llof => k_is)
    (case clof => k_is)
    (case klof => k_is)
    (case ahld => k_is)
    (case lhld => k_is)
    (case chld => k_is)
    (case khld => k_is)
    (case alaw => k_is)
    (case llaw => k_is)
    (case claw => k_is)
    (case klaw => k_is)
    (case z_len => k_is)
    (case z_list => k_is)
    (case z_tuple => k_is)
    (case z_zip => k_is)
    (case z_enumerate => k_is)
    (case z_range => k_is)
    (case z_any => k_is)
    (case z_all => k_is)
    (case z_isinstance => k_is)
    (case z_int => k_is)
    (case z_str => k_is)
    (case z_bool => k_is)
    (case z_dict => k_is)
    (case z_sum => k_is)
    (case z_set => k_is)
    (case z_sorted => k_is)

